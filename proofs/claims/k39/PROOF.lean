import PyProof.Rows.All
import Wide.All
import OpenK.AllK
import Wide.FinOn
import PyProof.EqAt
import PyProof.EqKinds
import PyProof.TupleCall
import HandS.Base
import HandS.Call
import HandS.List
import HandS.Ends
import HandS.Exc
import HandS.ExcOwn
import HandS.ExcInit
import HandS.Lambda
import HandS.ExcField
import HandS.ExcIs
import HandS.IsInst
import HandS.EndTab
import HandS.Words
import HandS.WordsList
import HandS.WordsExc
import HandS.ClsMeth
import HandS.Wide
import HandS.Conv
import HandS.LawCells
import HandS.MakeKw
import HandS.MakeKwOnly
import KE.KCallOwn
import HandS.SlotsOwn
import HandS.FStr
import KE.IntTextLaws
import KE.KIntText
import HandS.Text
import HandS.OwnEq
import HandS.Star
import HandS.StrMore
import HandS.Iter
import HandS.Walk
import HandS.TupAny
import KE.KAssignIn
import OpenK.KMeth
import KE.DataAny
import HandS.TupMul
import KE.KDictZip
import HandS.Zip
import HandS.ListItems
import HandS.ExcValue
import KE.KOpsOwn
import PyProof.NeKinds
import KE.DataFind
import HandS.Gcd
import PySem.Challenge.RW_freetakes_k39_size_sets_joined
set_option Elab.async false
set_option linter.all false
set_option maxRecDepth 100000
set_option maxHeartbeats 2000000
/-! Own layer, first part: repr of data; defs that are called where no repr is under way. -/
namespace Fz
open PySem PySem.Spec PyProof.Rows L2

/-! ### repr of lists and tuples of data -/
structure rRepD (K : PySem.W.Frag) (vs : List V) (H : Hp) (Q : VK) : Prop where
  ex : ∃ (p : Addr) (dat : PyData), vs = [.ref p] ∧ Dp K H (.ref p) dat ∧ dat.showable = true ∧ dat.hasDict = false ∧ dat.depth ≤ 60 ∧ dat.shown.length ≤ sizeLine ∧ Q (.str dat.shown) H
theorem call_repD {X : Cx} (clear : X.A.guards = some []) (room : X.A.units + 64 < cLine) : CallR X (.builtin "repr") (rRepD X.K) := by
  intro pins s σ H vs us Q I rvs hyp
  obtain ⟨p, dat, rfl, hdat, hshow, hno, hdeep, hfit, fin⟩ := hyp.ex
  obtain ⟨u, rfl, ru⟩ := vals1 rvs
  cases ru
  obtain ⟨seen, reads⟩ := Dp.reads I dat (.ref p) (.ref p) hdat rfl
  refine repr_of_reads' reads hshow (fun bad => ?_) clear (by omega) (fun _ _ same => same) (fun heap' tok toks kept => ?_) hfit
  · rw [hno] at bad
    cases bad
  · exact ⟨.str dat.shown, H, I.kept kept, ⟨_, rfl⟩, fin⟩

/-! ### defs that are called where no repr is under way -/
structure FnG (P : Program) (w : World) (K : PySem.W.Frag) (mg : Str → Option Value) (base : Heap) (CX : CXT) (k : Nat) (f : Addr) (fd : FuncData) (ps : List Str) (sp : Sp) : Prop where
  len : ∀ vs H Q E, sp vs H Q E → vs.length = ps.length
  run : ∀ (A : Around) (outer : List Env) (s : Shared) (H : Hp) (args : Args) (us : List Value) (vs : List V) (Q : VK) (E : XK), Room k A → A.guards = some [] → Env0 P w K mg base A outer s H →
    BindsTo s fd args (ps.zip us) → Vals vs us → sp vs H Q E → codeAny (model P w) A (.call (.ref f) args) (CR CX outer P w H s Q E) s
section
variable {P : Program} {w : World} {K : PySem.W.Frag} {mg : Str → Option Value} {base : Heap} {CX : CXT} {k : Nat} {f : Addr} {fd : FuncData} {ps : List Str} {sp : Sp}
theorem FnG.of (F : FnOk P w K mg base CX k f fd ps sp) : FnG P w K mg base CX k f fd ps sp :=
  ⟨F.len, fun A outer s H args us vs Q E room _ => F.run A outer s H args us vs Q E room⟩
/-- the rule for such a def -/
theorem fnG_of {name qual : Str} {params : Arguments} {body : List Stmt} {scope : Scope} {dV kV doc pm cdv ct oc : Value} {an od : Option Addr} {osl : Array (Option Value)} {N : List Str}
    (lk : K.lookup f = some ⟨oc, od, .func (PySem.W.fnOf name qual params body scope dV kV doc pm an cdv ct), osl⟩) (code : PySem.W.codeIn K cdv qual = true) (S : FnScope N ps scope) (len : ∀ vs H Q E, sp vs H Q E → vs.length = ps.length)
    (walk : ∀ (A : Around) (outer : List Env) (s : Shared) (H : Hp) (vs : List V) (Q : VK) (E : XK), Room k (A.deeper (envOfC qual scope s.heap.objs.size f cdv)) → A.guards = some [] → sp vs H Q E →
      ∃ t, PSs (cxOf CX P w K mg base N qual scope f cdv A outer s H E) body t ∧ t { nx := fun _ H' => Q .non H', rt := Q } (start N vs) H) :
    FnG P w K mg base CX (k + 1) f (PySem.W.fnOf name qual params body scope dV kV doc pm an cdv ct) ps sp :=
  ⟨len, fun A outer s H args us vs Q E room clear at0 binds rvs hyp => LamX.run_ofS lk code S room at0 binds rvs (len _ _ _ _ hyp) fun room' => walk A outer s H vs Q E room' clear hyp⟩
end
section
variable {X : Cx} {CX : CXT} {k : Nat} {f : Addr} {fd : FuncData} {ps : List Str} {sp : Sp} {dvs : List V} {ds : List Value} {E : XK} {x : Str} {p pos : Pos} {e : Expr} {es : List Expr} {t : TA}
theorem run_fnG {pins : List (Addr × Obj)} {σ : L2.St} {H : Hp} {s : Shared} {Q : VK} {us : List Value} {vs : List V} (F : FnG X.prog X.w X.K X.mg X.base CX k f fd ps sp) (room : Room k X.A) (clear : X.A.guards = some []) (binds : L2.Binds X.K fd ps ds) (rd : Vals dvs ds)
    (pass : Passes CX X E) (I : Inv X pins σ H s) (rvs : Vals vs us) (hyp : sp (vs ++ dvs) H Q E) : wpAny (model X.prog X.w) X.A (call (.ref f) us) (EP X pins σ Q) X.xe s := by
  have rall : Vals (vs ++ dvs) (us ++ ds) := rvs.append rd
  have many : (us ++ ds).length = ps.length := rall.length.symm.trans (F.len _ _ _ _ hyp)
  refine wpAny_call (codeAny_mono (F.run X.A X.stack s H ⟨us, []⟩ (us ++ ds) (vs ++ dvs) Q E room clear I.env0 (binds s us I.kIn many) rall hyp) fun res s' got => ?_)
  match res, got with
  | .error e, got => exact pass pins σ H s e s' I got
  | .ok (.ret u), got => exact I.after got
  | .ok .next, got => exact got.elim
  | .ok .brk, got => exact got.elim
  | .ok .cont, got => exact got.elim
theorem pe_callG (F : FnG X.prog X.w X.K X.mg X.base CX k f fd ps sp) (room : Room k X.A) (clear : X.A.guards = some []) (glob : Gl X x) (at_ : X.mg x = some (.ref f)) (keep : PySem.W.keepIn X.K (.ref f) = true) (binds : L2.Binds X.K fd ps ds) (rd : Vals dvs ds) (pass : Passes CX X E)
    (ha : PA X (e :: es) t) (ndb : (x == ("__debug__" : Str)) = false := by decide) (star : starEach (e :: es) X.env = (false, eval e X.env) :: starEach es X.env := by rfl) (plain : (backTo pos (starEach es X.env)).any (·.1) = false := by rfl) :
    PE X (.Call (.Name x p) (e :: es) [] pos) (tCall sp dvs E t) :=
  ⟨fun pins s σ H Q I hyp => wpAny_Call_Name_kw (ld_glob I glob at_ (PySem.W.callWith_K (h₀ := X.base) I.ok.mod.kin keep
    (thn (ha.run pos pins s σ H _ I hyp) fun us s1 ⟨vs, H1, I1, rvs, fin⟩ => ⟨I1.kIn, run_fnG F room clear binds rd pass I1 rvs fin⟩) star plain) ndb)⟩
end
end Fz

set_option Elab.async false
set_option linter.all false
set_option maxRecDepth 100000
set_option maxHeartbeats 4000000
/-! Own layer, second part: a caught error of an own class that a name keeps behind the except suite: it is tracked. -/
namespace Fz
open PySem PySem.Spec PyProof.Rows L2

/-- at p: an error of the class cls, its fields' dict at d -/
def Err (cls : Value) (d : Option Addr) (p : Addr) : HO := .ext fun h => ∃ (ob : Obj) (slots : Array Value), h.get? p = some ob ∧ Zc cls d ob ∧ ob.data = .fields slots
theorem Err.made {P : Program} {w : World} {H : Hp} {h : Heap} {p : Addr} {cls : Value} {d : Option Addr} {ob : Obj} {slots : Array Value} (at_ : h.get? p = some ob) (z : Zc cls d ob) (dat : ob.data = .fields slots) : ObjOk P w H h p (Err cls d p) :=
  ⟨⟨ob, slots, at_, z, dat⟩, ⟨ob, at_⟩, fun _ _ ⟨ob', slots', q, r⟩ stay => ⟨ob', slots', stay ob' q, r⟩⟩
theorem Err.at_ {P : Program} {w : World} {H : Hp} {h : Heap} {p : Addr} {cls : Value} {d : Option Addr} (ok : HOk P w H h) (here : H p = some (Err cls d p)) : ∃ (ob : Obj) (slots : Array Value), h.get? p = some ob ∧ Zc cls d ob ∧ ob.data = .fields slots :=
  (show ObjOk P w H h p (.ext _) from ok p _ here).1

section
variable {X : Cx} {pins : List (Addr × Obj)} {σ : L2.St} {H : Hp} {s : Shared}
/-- an object that came to be since the entry is tracked from now on -/
theorem track {p : Addr} {o : HO} (I : Inv X pins σ H s) (un : H p = none) (new : ObjOk X.prog X.w (upd H p o) s.heap p o) (late : ∀ b u, X.s_0.heap.get? b = some u → b ≠ p) (noFrame : p ≠ X.env.locals)
    (noCell : ∀ x c, X.env.cells.lookup x = some c → c ≠ p) (noPin : ∀ q ∈ X.pn ++ pins, q.1 ≠ p) : Inv X pins σ (upd H p o) s := by
  have other : ∀ {b u}, H b = some u → b ≠ p := fun {b u} q => ne_of_none q un
  refine ⟨I.ok, I.os, I.bare, ⟨I.base.keep, I.base.slot, fun b u q n hx => ?_, I.base.there, fun b vs q => ?_, fun b u v q => ?_, fun b vs q => ?_⟩, I.loc, I.cell, ?_, fun x c q => ?_, fun q hq => ?_, fun b u q => ?_, I.len⟩
  · rw [upd_ne (late b u q)]
    exact I.base.free b u q n hx
  · have z := I.base.tups b vs q
    rw [upd_ne (other z)]
    exact z
  · have z := I.base.frzs b u v q
    rw [upd_ne (other z)]
    exact z
  · obtain ⟨more, z⟩ := I.base.tbls b vs q
    exact ⟨more, by rw [upd_ne (other z)]; exact z⟩
  · rw [upd_ne (Ne.symm noFrame)]
    exact I.free
  · rw [upd_ne (noCell x c q)]
    exact I.freeC x c q
  · obtain ⟨z1, z2, z3, z4, z5⟩ := I.pin q hq
    exact ⟨z1, by rw [upd_ne (noPin q hq)]; exact z2, z3, z4, z5⟩
  · by_cases hb : b = p
    · subst hb
      rw [upd_same] at q
      cases q
      exact new
    · rw [upd_ne hb] at q
      refine (I.hok b u q).stay (fun c v _ r => r) (fun c r => ?_) fun c vs r => ?_
      · rw [upd_ne (other r)]
        exact r
      · rw [upd_ne (other r)]
        exact r
/-- into an except suite, and out of it, the error tracked -/
theorem intoSuite (I : Inv X pins σ H s) (p : Addr) : Inv (X.suite p (X.pn ++ pins)) [] σ H s :=
  ⟨I.ok.suite p (X.pn ++ pins), I.os, I.bare, I.base, I.loc, I.cell, I.free, I.freeC, fun q hq => I.pin q (by simpa using hq), I.hok, I.len⟩
theorem outOfSuite {p : Addr} {more : List (Addr × Obj)} (I : Inv (X.suite p (X.pn ++ pins)) more σ H s) (ok : X.Ok) : Inv X pins σ H s :=
  ⟨ok, I.os, I.bare, I.base, I.loc, I.cell, I.free, I.freeC, fun q hq => I.pin q (List.mem_append_left more hq), I.hok, I.len⟩
end

/-- what the clause «except x as n» wishes: in its suite, and from then on, the error is tracked at p -/
def wErr (K : PySem.W.Frag) (N : List Str) (c : Value) (i : Nat) (ts : Addr → Value → Option Addr → TS) (Wout : WX) (D : Ends) : WX := fun cls d σ H => ∃ hit, PySem.W.exmOne K cls c = some hit ∧
  (hit = true → σ.length = N.length → ∀ p, H p = none → ts p cls d { nx := fun σ' H' => D.nx (σ'.set i none) H', rt := D.rt, bk := fun σ' H' => D.bk (σ'.set i none) H', ct := fun σ' H' => D.ct (σ'.set i none) H' } (σ.set i (some (.ref p))) (upd H p (Err cls d p))) ∧
  (hit = false → Wout cls d σ H)
section
variable {X : Cx} {x n : Str} {c : Value} {i : Nat} {body rest : List Stmt} {first : Stmt} {np pos pos' : Pos} {tb : WX → TS} {ts : Addr → Value → Option Addr → TS} {Wout : WX}
theorem ps_tryErr (stk : X.stack = X.env :: X.outer) (frm : X.env.frame = some X.env.locals) (noex : X.ex = []) (nd : X.N.Nodup) (slot : X.N[i]? = some n) (isLocal : X.env.kindOf n = some .local) (named : Names X x c) (out : Takes X Wout)
    (hbody : ∀ (W : WX) (pn : List (Addr × Obj)) (xe : Value → Shared → Prop), Takes (X.tr pn xe) W → PassesOwn (model X.prog X.w) X.A X.env xe → PSs (X.tr pn xe) body (tb W))
    (hsuite : ∀ (p : Addr) (cls : Value) (d : Option Addr) (pn : List (Addr × Obj)), PSs (X.suite p pn) (first :: rest) (ts p cls d)) :
    PS X (.Try body [.ExceptHandler (some (.Name x np)) (some n) (first :: rest) pos'] [] [] pos) (fun D σ H => tb (wErr X.K X.N c i ts Wout D) D σ H) := by
  refine ⟨fun pins s σ H D I hyp => wpAny_Try_except ?_⟩
  have okX := I.ok
  have frames : X.A.frames = some (X.env :: X.outer) := okX.frames.trans (congrArg some stk)
  refine wpAny_mono ((hbody (wErr X.K X.N c i ts Wout D) (X.pn ++ pins) (fun err s₁ => wpAny (model X.prog X.w) X.A (noteFrame err X.env) (fun _ s₂ => wpAny (model X.prog X.w) X.A (setFlight err none) (fun _ s₃ =>
    wpAny (model X.prog X.w) X.A (handleBy err X.env [.ExceptHandler (some (.Name x np)) (some n) (first :: rest) pos']) (SP X pins D) X.xe s₃) X.xe s₂) X.xe s₁) (fun err s' air => ?_) PassesOwn.looking).run [] s σ H D (I.toTry _) hyp) (fun flow s' done => ?_) (fun _ _ z => z)
  · -- an error comes
    obtain ⟨p, B, ground, pins', σ', H', cls, d, rfl, Jt, below, upto, sky, un, sameOs, bare, hit, test, yes, no⟩ := air
    have J : Inv X pins σ' H' ground := Jt.ofTry okX
    rw [stk] at sky
    show wpAny (model X.prog X.w) X.A (noteFrame (.ref p) X.env) _ _ _
    refine Sky.land Zc.steady frames frm sky fun h1 fly1 upto1 => ?_
    have J1 : Inv X pins σ' H' { s' with heap := h1 } := J.landed below fly1.1 (upto.trans upto1) sameOs bare
    obtain ⟨ob1, sl1, get1, z1, dat1⟩ := fly1.there
    -- p is no frame's own address
    have noFrame : p ∉ frs (X.env :: X.outer) := fun hm => by
      obtain ⟨_, ob', get', nofields⟩ := fly1.2.2.1.mem hm
      have same : ob1 = ob' := Option.some.inj (get1.symm.trans get')
      exact nofields sl1 (same ▸ dat1)
    have notOwn : p ≠ X.env.locals := fun z => noFrame (List.mem_filterMap.mpr ⟨X.env, List.mem_cons_self, by rw [frm, z]⟩)
    -- p came to be behind the entry
    have fresh0 : ∀ b u, ground.heap.get? b = some u → b ≠ p := fun b u q z => by
      have z2 := below b u q (by rw [stk, z]; exact noFrame)
      rw [z, fly1.2.1] at z2
      cases z2
    have fresh : ∀ b u, X.s_0.heap.get? b = some u → b ≠ p := fun b u q => by
      obtain ⟨u', q'⟩ := J.base.there b u q (by rw [noex]; exact fun z => nomatch z)
      exact fresh0 b u' q'
    have noPin : ∀ q ∈ X.pn ++ pins, q.1 ≠ p := fun q hq => fresh0 q.1 q.2 (J.pin q hq).1
    have noCell : ∀ y k, X.env.cells.lookup y = some k → k ≠ p := fun y k q => by
      obtain ⟨v, ob', get', _⟩ := J.cell y k q
      exact fresh0 k ob' get'
    -- the clause's class is named and asked
    refine wpAny_handleBy_cons (codeAny_handlers_test ?_) (by intro z; cases z)
    have tyP : PySem.W.Looks (model X.prog X.w) h1 (typeOf (.ref p)) cls := fun A Q E s k q => wpAny_typeOf_ref (k _ _ get1) (by rw [z1.1]; exact q)
    have ask := PySem.W.exm_one (M := model X.prog X.w) J1.kIn tyP test
    have inside := intoSuite J1 p
    have loaded : ∀ {Q : Value → Shared → Prop} {E : Value → Shared → Prop}, Q c { s' with heap := h1 } → wpAny (model X.prog X.w) (X.A.mark (some (.ref p))) (eval (.Name x np) X.env) Q E { s' with heap := h1 } := fun {Q E} q => by
      obtain ⟨isGlob, ndb, here | ⟨nowhere, boot, nname⟩⟩ := named
      · exact ld_glob (X := X.suite p (X.pn ++ pins)) inside isGlob here q ndb
      · exact ld_blt (X := X.suite p (X.pn ++ pins)) inside isGlob nowhere boot q nname ndb
    refine loaded (ask.here ?_)
    match hit, yes, no with
    | true, yes, _ =>
      refine codeAny_handlers_suite_as (HandSPX.lands_againZ fly1 fun h2 fly2 upto2 => ?_)
      have J2 : Inv X pins σ' H' { s' with heap := h2 } := J.landed below fly2.1 ((upto.trans upto1).trans upto2) sameOs bare
      obtain ⟨ob2, sl2, get2, z2, dat2⟩ := fly2.there
      have tracked := track J2 un (Err.made get2 z2 dat2) fresh notOwn noCell noPin
      refine store_ok (X := X.suite p (X.pn ++ pins)) (v := .ref p) (intoSuite tracked p) nd slot (.inl isLocal) rfl (fun s3 S3 => ?_) (.inr isLocal)
      refine wpAny_mono ((hsuite p cls d (X.pn ++ pins)).run [] s3 _ _ _ S3 (yes rfl J.len p un)) (fun flow s4 done => ?_) (fun _ _ z => z.elim)
      have gone : ∀ {σ4 : L2.St} {H4 : Hp} {Q : Shared → Prop}, Inv (X.suite p (X.pn ++ pins)) [] σ4 H4 s4 → (∀ s5, Inv X pins (σ4.set i none) H4 s5 → Q s5) →
          wpAny (model X.prog X.w) X.A (do bindName X.env n .none; unbindBehindTheSuite X.env n pos') (fun _ s5 => Q s5) X.xe s4 := fun {σ4 H4 Q} S4 go => gone_ok (outOfSuite S4 okX) nd slot isLocal go
      match flow, done with
      | .next, ⟨_, _, S4, q⟩ => exact gone S4 fun _ J5 => ⟨_, _, J5, q⟩
      | .brk, ⟨_, _, S4, q⟩ => exact gone S4 fun _ J5 => ⟨_, _, J5, q⟩
      | .cont, ⟨_, _, S4, q⟩ => exact gone S4 fun _ J5 => ⟨_, _, J5, q⟩
      | .ret _, ⟨_, _, _, S4, rv, q⟩ => exact gone S4 fun _ J5 => ⟨_, _, _, J5, rv, q⟩
    | false, _, no =>
      show wpAny _ X.A (handleBy (.ref p) X.env []) _ _ _
      refine wpAny_handleBy_nil ?_
      obtain ⟨_, _, _, obF, slF, T, _, _, getF, _, datF, traced, _⟩ := id fly1
      unfold PySem.passOn
      refine wpAny_bind (wpAny_field getF datF traced ?_)
      rw [if_neg (show ¬ ((Value.ref T == Value.none) = true) by simp)]
      have on_ : wpAny (model X.prog X.w) X.A (setFlight (.ref p) X.env.frame) (fun _ s4 => wpAny (model X.prog X.w) X.A (throw (.ref p) : Sem Flow) (SP X pins D) X.xe s4) X.xe { s' with heap := h1 } := by
        rw [frm]
        exact HandSPX.setFlight_upZ fly1 fun h2 held2 upto2 => wpAny_throw (out _ _ ⟨p, B, ground, pins, σ', H', cls, d, rfl, J, below, (upto.trans upto1).trans upto2, .inr (.inr (by rw [stk]; exact held2)), un, sameOs, bare, no rfl⟩)
      first
        | exact wpAny_bind (wpAny_pure (wpAny_bind on_))
        | exact wpAny_bind on_
  · match flow, done with
    | .next, ⟨_, _, J, q⟩ => exact wpAny_execs_nil ⟨_, _, J.ofTry okX, q⟩
    | .brk, ⟨_, _, J, q⟩ => exact ⟨_, _, J.ofTry okX, q⟩
    | .cont, ⟨_, _, J, q⟩ => exact ⟨_, _, J.ofTry okX, q⟩
    | .ret _, ⟨_, _, _, J, rv, q⟩ => exact ⟨_, _, _, J.ofTry okX, rv, q⟩
end
end Fz

set_option Elab.async false
set_option linter.all false
set_option maxRecDepth 100000
set_option maxHeartbeats 4000000
/-! Own layer, third part: what is asked of a tracked error: its fields, its class. -/
namespace Fz
open PySem PySem.Spec PyProof.Rows L2
section
open PySem.W
variable {prog : Program} {w : World} {A : Around} {E : Value → Shared → Prop} {s : Shared} {K : Frag} {p cl : Addr} {ob : Obj} {own : Option Obj}
/-- err.__class__, the error with a dict or without one -/
theorem err_class {Q : Option Value → Shared → Prop} (C : ExcC K cl) (X : K.In s.heap) (I : InstAt s.heap p ob cl own) (fin : Q (some (.ref cl)) { s with toks := s.toks + 1 }) : wpAny (model prog w) A (getAttr? (.ref p) "__class__") Q E s := by
  have found : findObj K cl own "__class__" = some (.bind (.builtin "getset_descriptor.__get__") (.builtin "object.__class__")) := by
    have isC : (clsIn K cl).isSome = true := by
      obtain ⟨cd, q, _⟩ := any_some C.hd
      rw [q]
      rfl
    cases own with
    | none => exact findObj_dataN isC C.ha C.hn C.ht
    | some od => exact findObj_data isC C.ha C.hn C.ht
  obtain ⟨heap, gens, drawn, tok, os⟩ := s
  have t1 := I.type (M := model prog w)
  have t2 := looks_findIn (M := model prog w) X C.hg
  have t3 := looks_findIn (M := model prog w) X C.hk
  have t4 := looks_find (M := model prog w) X I found
  have isExc : Looks (model prog w) heap (isInstance (.ref p) (.type "BaseException")) true := t1.andThen (looks_subIn X C.hs)
  have n1 : (Value.builtin "BaseException.__getattribute__" == Value.builtin "object.__getattribute__") = false := by decide +kernel
  have n2 : (onTheHeap (Value.ref cl) && Value.builtin "BaseException.__getattribute__" == Value.builtin "object.__getattribute__") = false := by rw [n1]; rfl
  have n3 : (false && onTheHeap (Value.builtin "BaseException.__getattribute__")) = false := rfl
  unfold getAttr? getAttrBy? getAttrBy
  refine wpAny_bind (wpAny_mkText (wpAny_bind (wpAny_attempt (wpAny_holding (wpAny_bind (t1.at (wpAny_bind (t2.at ?_))))))))
  show wpAny _ _ (if (onTheHeap (Value.ref cl) && Value.builtin "BaseException.__getattribute__" == Value.builtin "object.__getattribute__") = true then _ else _) _ _ _
  rw [n2, if_neg Bool.false_ne_true]
  unfold getAttrByItsOwn hookBefore
  refine wpAny_bind ?_
  rw [if_pos (show onTheHeap (Value.ref cl) = true from rfl)]
  refine t3.at (wpAny_bind (wpAny_attempt (wpAny_holding ?_)))
  unfold callGetattribute
  rw [n3, if_neg Bool.false_ne_true]
  unfold boundAndCalled
  rw [PySem.F.excAttr_ValueError.ga.bind (.ref p)]
  refine wpAny_bind (wpAny_pure ?_)
  show wpAny _ _ (call (.builtin "BaseException.__getattribute__") [.ref p, .str "__class__" tok]) _ _ _
  refine wpAny_call (codeAny_call_builtin PySem.F.excAttr_ValueError.ga.plain PySem.F.entry_bexc_ga ?_)
  refine @check_slot (model prog w) _ _ ⟨heap, gens, drawn, tok + 1, os⟩ "BaseException.__getattribute__" "BaseException" "__getattribute__" (.ref p) [.str "__class__" tok] [] _ (by decide +kernel) (by decide +kernel) isExc (PySem.F.args_bexc_ga (.ref p) (.str "__class__" tok)) ?_
  unfold Builtin.«object.__getattribute__»
  refine wpAny_bind (wpAny_of_eq (a := ((Value.ref p : Value), [Value.str "__class__" tok])) (by first | rfl | (simp only [slotArgs]; rfl)) ?_)
  refine wpAny_bind (wpAny_pure (wpAny_bind (t1.at (wpAny_bind (t4.at ?_)))))
  show wpAny _ _ (holding [Value.builtin "object.__class__"] (call (.builtin "getset_descriptor.__get__") [.builtin "object.__class__", .ref p, .ref cl]) >>= ret) _ _ _
  refine wpAny_bind (wpAny_holding (wpAny_call (class_get (s := ⟨heap, gens, drawn, tok + 1, os⟩) (ox := ob) (od := own) X I C.hm ?_)))
  refine wpAny_pure ?_
  show wpAny _ _ (handedOut (.ref cl)) _ _ _
  rw [handedOut_of (v := .ref cl) rfl]
  first
    | exact wpAny_pure (wpAny_pure fin)
    | exact wpAny_pure fin
    | exact wpAny_pure (wpAny_bind (wpAny_pure (wpAny_pure fin)))
theorem cls_obj (C : ExcC K cl) : ∃ o : Obj, K.lookup cl = some o ∧ (∀ its n, o.data ≠ .seq its n) ∧ ∀ (M : Model) (h : Heap), K.In h → Looks M h (isType (.ref cl)) true := by
  obtain ⟨cd, q, _⟩ := any_some C.hd
  unfold clsIn at q
  split at q
  · rename_i c d dat sl here
    refine ⟨_, here, fun its n z => (by cases z), fun M h X A Q E st stay fin => ?_⟩
    unfold isType loadHead
    exact wpAny_bind (wpAny_loadPart (stay _ _ (X _ _ here)) (wpAny_pure fin))
  · cases q
theorem kit_err (C : ExcC K cl) : KitX K (.ref p) (.ref cl) (fun h => InstAt h p ob cl own) where
  ty := fun _ _ _ I => I.type
  it := fun M h X _ => (cls_obj C).choose_spec.2.2 M h X
  ne := fun h tp dd its n sl X there => by
    obtain ⟨o, here, noSeq, _⟩ := cls_obj C
    refine Bool.eq_false_iff.mpr fun q => ?_
    cases Value.ref.inj (beq_iff_eq.mp q)
    have z := Option.some.inj ((X _ _ here).symm.trans there)
    exact noSeq its.toArray n (by rw [z])
  ca := fun X I fin => err_class C X I fin
end
section
variable {X : Cx}
/-- an error's place as the library's rules take it -/
theorem inst_err {pins : List (Addr × Obj)} {σ : L2.St} {H : Hp} {s : Shared} {p cl : Addr} {d : Option Addr} (I : Inv X pins σ H s) (here : H p = some (Err (.ref cl) d p)) (dict : ∀ dd, d = some dd → ∃ fs, H dd = some (.xd fs)) :
    ∃ (ob : Obj) (own : Option Obj), PySem.W.InstAt s.heap p ob cl own := by
  obtain ⟨ob, slots, get, z, dat⟩ := Err.at_ I.hok here
  have notC : PySem.W.notCls ob = true := by
    unfold PySem.W.notCls
    rw [dat] <;> rfl
  match d, z, dict with
  | none, z, _ => exact ⟨ob, none, get, z.1, notC, by rw [z.2]; trivial⟩
  | some dd, z, dict =>
    obtain ⟨fs, q⟩ := dict dd rfl
    obtain ⟨mA, names, _⟩ := (show ObjOk X.prog X.w H s.heap dd (.xd fs) from I.hok dd _ q)
    obtain ⟨od, getD, _⟩ := lookIn_ns names
    exact ⟨ob, some od, get, z.1, notC, by rw [z.2]; exact getD⟩
/-- isinstance(err, c) -/
def rIsErr (K : PySem.W.Frag) : List V → Hp → VK → Prop := fun vs H Q => ∃ (p cl : Addr) (d : Option Addr) (c : V) (cv : Value) (b : Bool), vs = [.ref p, c] ∧ H p = some (Err (.ref cl) d p) ∧ (∀ dd, d = some dd → ∃ fs, H dd = some (.xd fs)) ∧ ExcC K cl ∧ ClsV c cv ∧
  PySem.W.kitOne K (.ref cl) cv = some b ∧ Q (.bl b) H
theorem call_isErr : CallR X (.builtin "isinstance") (rIsErr X.K) := by
  intro pins s σ H vs us Q I rvs hyp
  obtain ⟨p, cl, d, c, cv, b, rfl, here, dict, C, isC, ans, fin⟩ := hyp
  obtain ⟨u1, u2, rfl, r1, r2⟩ := vals2 rvs
  cases r1
  cases isC.eq r2
  obtain ⟨ob, own, J⟩ := inst_err I here dict
  exact PySem.W.kia_one (kit_err C) I.kIn J ans (fun z => nomatch z) fun tk => ⟨.bl b, H, I.tok tk, rfl, fin⟩
/-- err.f -/
def tErrF (K : PySem.W.Frag) (f : Str) (te : TE) : TE := fun σ H Q => te σ H fun x H1 => ∃ (p cl dd : Addr) (fs : List (Str × V)) (v : V), x = .ref p ∧ H1 p = some (Err (.ref cl) (some dd) p) ∧ H1 dd = some (.xd fs) ∧ XfC K cl ∧ PySem.W.findIn K (.ref cl) f = some none ∧ fs.lookup f = some v ∧ Q v H1
theorem pe_errF {e : Expr} {te : TE} {f : Str} {pos : Pos} (he : PE X e te) (base : attributeBase e f X.env (eval e X.env) = eval e X.env := by rfl) : PE X (.Attribute e f pos) (tErrF X.K f te) := by
  refine ⟨fun pins s σ H Q I hyp => attr_of base (thn (he.run pins s σ H _ I hyp) fun u s1 ⟨x, H1, I1, rx, p, cl, dd, fs, v, ex, here, dict, T, none_, look, fin⟩ => ?_)⟩
  subst ex
  obtain rfl : u = Value.ref p := rx
  obtain ⟨ob, slots, get, z, dat⟩ := Err.at_ I1.hok here
  obtain ⟨mA, names, rel⟩ := (show ObjOk X.prog X.w H1 s1.heap dd (.xd fs) from I1.hok dd _ dict)
  obtain ⟨od, getD, lookD⟩ := lookIn_ns names
  obtain ⟨u', atf, ru⟩ := RelO.some_of (v := v) (o := mA f) (by rw [← look]; exact rel f)
  have J : PySem.W.InstAt s1.heap p ob cl (some od) := ⟨get, z.1, by unfold PySem.W.notCls; rw [dat] <;> rfl, by rw [z.2]; exact getD⟩
  exact HandSPX.exc_get I1.kIn J T.ga T.gg T.exC (PySem.W.findObj_own T.hdC none_ rfl (by rw [lookD, atf])) (handed_of ru) ⟨v, H1, I1.tok _, ru, fin⟩
end
end Fz

set_option Elab.async false
set_option linter.all false
set_option maxRecDepth 100000
set_option maxHeartbeats 4000000
/-! Own layer, fourth part: the end of a law's row, for a law whose defs ask for repr, its tables of code objects told. -/
namespace Fz
open PySem PySem.Spec PyProof.Rows L2
section
variable {P : Program} {w : World} {K : PySem.W.Frag} {mg mb : Str → Option Value} {s : Shared} {H : Hp}
/-- what is tracked at first: lists and empty records, none of them in the written part -/
structure First (K : PySem.W.Frag) (h : Heap) (H : Hp) : Prop where
  out : ∀ b, H b ≠ none → K.lookup b = none
  kind : ∀ b o, H b ≠ none → h.get? b = some o → (∃ its n, o.data = .seq its n) ∨ o.data = .fields #[]
theorem First.free (F : First K s.heap H) {b : Addr} {o : Obj} (get : s.heap.get? b = some o) (n1 : ∀ its n, o.data ≠ .seq its n) (n2 : o.data ≠ .fields #[]) : H b = none := by
  cases q : H b with
  | none => rfl
  | some u =>
    rcases F.kind b o (by rw [q]; exact fun z => nomatch z) get with ⟨its, n, z⟩ | z
    · exact absurd z (n1 its n)
    · exact absurd z n2
theorem First.names (F : First K s.heap H) {b : Addr} {m : Str → Option Value} (N : s.heap.Ns b m) : (hidT s.heap H).Ns b m := by
  obtain ⟨o, es, ep, get, dat, more⟩ := N
  exact ⟨o, es, ep, hidT_get get (F.free get (fun its n z => by rw [dat] at z; cases z) (fun z => by rw [dat] at z; cases z)), dat, more⟩
theorem First.part (F : First K s.heap H) (X : K.In s.heap) : K.In (hidT s.heap H) := fun b o here => hidT_get (X b o here) (by
  cases q : H b with
  | none => rfl
  | some u =>
    have z := F.out b (by rw [q]; exact fun z => nomatch z)
    rw [here] at z
    cases z)
theorem First.env (F : First K s.heap H) (X : K.In s.heap) (N : s.heap.Ns mainGlobals mg) (B : s.heap.Ns builtinsNs mb) (boot : ∀ x : Str, x ≠ "__name__" → mb x = bootBuiltins x) (lim : s.heap.NoLimit) (noGens : s.gens = #[]) (ok : HOk P w H s.heap) :
    Env0 P w K mg (hidT s.heap H) callerA [] s H where
  frames := rfl
  mod := ⟨F.part X, F.names N, ⟨mb, F.names B, boot⟩, let ⟨mc, q, r⟩ := lim; ⟨mc, F.names q, r⟩⟩
  bs := fun _ _ z => of_hidT z
  bsz := Nat.le_of_eq (hidT_size _ _)
  funs := trivial
  frf := fun b z => nomatch (show b ∈ ([] : List Addr) from z)
  hok := ok
  bare := .of_eq noGens
theorem First.table (F : First K s.heap H) (N : s.heap.Ns mainGlobals mg) {c T : Addr} (tab : s.heap.get? T = some { cls := .none, data := .fields #[] }) (code : PySem.W.CodeHd s.heap c T)
    (main : ∃ (bm : Addr) (ob : Obj), mg "__builtins__" = some (.ref bm) ∧ bm ≠ builtinsNs ∧ s.heap.get? bm = some ob ∧ ob.cls = .type "module" ∧ ob.dict = some builtinsNs ∧ ob.data = .plain) : LamX.TabB (hidT s.heap H) mg c T := by
  obtain ⟨om, es, ep, getM, datM, _⟩ := N
  refine ⟨?_, ?_, fun z => ?_⟩
  · obtain ⟨o, us, file, tf, flags, tg, inF, text, tt, get, isCode, dat, r⟩ := code
    exact ⟨o, us, file, tf, flags, tg, inF, text, tt, hidT_get get (F.free get (fun its n z => by rw [dat] at z; cases z) (fun z => by
      rw [dat] at z
      cases z
      have z2 := r.1
      simp at z2)), isCode, dat, r⟩
  · obtain ⟨bm, ob, r1, r2, r3, r4, r5, r6⟩ := main
    refine ⟨bm, ob, r1, r2, fun z => ?_, fun z => ?_, hidT_get r3 (F.free r3 (fun its n z => by rw [r6] at z; cases z) (fun z => by rw [r6] at z; cases z)), r4, r5, r6⟩
    · rw [z, getM] at r3
      cases r3
      rw [datM] at r6
      cases r6
    · rw [z, tab] at r3
      cases r3
      cases r6
  · rw [z, tab] at getM
    cases getM
    cases datM
end
/-- what a law's proof gives at the end of the top -/
def LawEnd (l : PySem.W.OpenLaw) (w : World) (K : PySem.W.Frag) (k n : Nat) (x : Str) (mg : Str → Option Value) (fa : Addr) (h : Heap) : Prop :=
  ∃ (fd : FuncData) (tabs : List (Addr × Addr)) (sp : Sp), (∀ q ∈ tabs, h.get? q.2 = some { cls := .none, data := .fields #[] } ∧ K.lookup q.2 = none ∧ PySem.W.CodeHd h q.1 q.2) ∧ (∀ (s : Shared) (u : Value), BindsTo s fd ⟨[u], []⟩ [(x, u)]) ∧
    (∀ (H : Hp) (a : Addr) (ns : List Int), ns.length ≤ n → (∀ z ∈ ns, Builtin.Int.intBits z ≤ 1048576) → (∀ q ∈ tabs, H q.2 = some (.tbl #[])) → SqL K H a (ns.map V.int) → sp [.ref a] H (fun v _ => v = .bl true) fun _ _ _ => False) ∧
    ∀ base : Heap, K.In base → base.Ns mainGlobals mg → (∀ q ∈ tabs, LamX.TabB base mg q.1 q.2) → FnG l.prog w K mg base CX0 k fa fd [x] sp
theorem law_end {l : PySem.W.OpenLaw} {w : World} {K : PySem.W.Frag} {mg mb : Str → Option Value} {k n : Nat} {fa a : Addr} {x : Str} {s : Shared} {vs : List Value} {ns : List Int}
    (X : K.In s.heap) (N : s.heap.Ns mainGlobals mg) (B : s.heap.Ns builtinsNs mb) (boot : ∀ x : Str, x ≠ "__name__" → mb x = bootBuiltins x) (lim : s.heap.NoLimit) (noGens : s.gens = #[])
    (main : ∃ (bm : Addr) (ob : Obj), mg "__builtins__" = some (.ref bm) ∧ bm ≠ builtinsNs ∧ s.heap.get? bm = some ob ∧ ob.cls = .type "module" ∧ ob.dict = some builtinsNs ∧ ob.data = .plain)
    (script : s.heap.get? a = some { cls := .type "list", data := .seq vs.toArray }) (areInts : IntsAre vs ns) (few : ns.length ≤ n) (line : n ≤ sizeLine) (bits : ∀ z ∈ ns, Builtin.Int.intBits z ≤ 1048576) (room : Room k callerA) (L : LawEnd l w K k n x mg fa s.heap) :
    codeAny (model l.prog w) callerA (.call (.ref fa) ⟨[.ref a], []⟩) (fun r s' => r = .ok (.ret (.bool true)) ∧ OldK s.heap s'.heap ∧ s'.os = s.os ∧ AllBare s'.gens) s := by
  obtain ⟨fd, tabs, sp, tab, binds, promise, fn⟩ := L
  have vals := vals_ints areInts
  have many := areInts.length
  have isTab : ∀ b ∈ tabs.map (·.2), s.heap.get? b = some { cls := .none, data := .fields #[] } := fun b hb => by
    obtain ⟨q, hq, z⟩ := List.mem_map.mp hb
    rw [← z]
    exact (tab q hq).1
  have apart : a ∉ tabs.map (·.2) := fun z => by
    have z2 := isTab a z
    rw [script] at z2
    cases z2
  have asTab : ∀ q ∈ tabs, q.2 ∈ tabs.map (·.2) := fun q hq => List.mem_map.mpr ⟨q, hq, rfl⟩
  -- from what is tracked at first: the tables, and the script where it is no object of the top
  have start_ : ∀ H : Hp, (∀ q ∈ tabs, H q.2 = some (.tbl #[])) → (∀ b, b ∉ tabs.map (·.2) → H b = none ∨ (b = a ∧ H b = some (.frz { cls := .type "list", data := .seq vs.toArray } (.lst (ns.map V.int))))) → (H a ≠ none → K.lookup a = none) → SqL K H a (ns.map V.int) →
      codeAny (model l.prog w) callerA (.call (.ref fa) ⟨[.ref a], []⟩) (fun r s' => r = .ok (.ret (.bool true)) ∧ OldK s.heap s'.heap ∧ s'.os = s.os ∧ AllBare s'.gens) s := by
    intro H onTab else_ outA read
    have cases_ : ∀ b u, H b = some u → (b ∈ tabs.map (·.2) ∧ u = .tbl #[]) ∨ (b = a ∧ u = .frz { cls := .type "list", data := .seq vs.toArray } (.lst (ns.map V.int))) := fun b u q => by
      by_cases hb : b ∈ tabs.map (·.2)
      · obtain ⟨t, ht, z⟩ := List.mem_map.mp hb
        have z2 := onTab t ht
        rw [z, q] at z2
        exact .inl ⟨hb, Option.some.inj z2⟩
      · rcases else_ b hb with z | ⟨z, z2⟩
        · rw [q] at z
          cases z
        · rw [q] at z2
          exact .inr ⟨z, Option.some.inj z2⟩
    have F : First K s.heap H := by
      refine ⟨fun b hb => ?_, fun b o hb get => ?_⟩
      · obtain ⟨u, q⟩ := Option.ne_none_iff_exists'.mp hb
        rcases cases_ b u q with ⟨z, _⟩ | ⟨z, _⟩
        · obtain ⟨t, ht, e⟩ := List.mem_map.mp z
          rw [← e]
          exact (tab t ht).2.1
        · rw [z] at hb ⊢
          exact outA hb
      · obtain ⟨u, q⟩ := Option.ne_none_iff_exists'.mp hb
        rcases cases_ b u q with ⟨z, _⟩ | ⟨z, _⟩
        · rw [isTab b z] at get
          cases get
          exact .inr rfl
        · rw [z, script] at get
          cases get
          exact .inl ⟨_, _, rfl⟩
    have ok : HOk l.prog w H s.heap := fun b u q => by
      rcases cases_ b u q with ⟨z, rfl⟩ | ⟨rfl, rfl⟩
      · exact isTab b z
      · exact ⟨script, by rw [List.length_map]; exact Nat.le_trans few line, vs, _, vals, script⟩
    have G := fn _ (F.part X) (F.names N) fun q hq => F.table N (tab q hq).1 (tab q hq).2.2 main
    refine codeAny_mono (G.run callerA [] s H ⟨[.ref a], []⟩ [.ref a] [.ref a] _ _ room rfl (F.env X N B boot lim noGens ok) (binds s (.ref a)) (.cons rfl .nil) (promise H a ns few bits onTab read)) fun r s' got => ?_
    match r, got with
    | .error _, got => exact got.elim
    | .ok .next, got => exact got.elim
    | .ok .brk, got => exact got.elim
    | .ok .cont, got => exact got.elim
    | .ok (.ret u), ⟨v, H', os, bare, un, ok', rv, fin⟩ =>
      cases (show v = .bl true from fin)
      cases (show u = Value.bool true from rv)
      have grown : ∀ b, b ∈ tabs.map (·.2) → ∃ more : Array Value, s'.heap.get? b = some { cls := .none, data := .fields more } := fun b hb => by
        obtain ⟨t, ht, e⟩ := List.mem_map.mp hb
        obtain ⟨more, z⟩ := un.tbls t.2 #[] (onTab t ht)
        rw [← e]
        exact ⟨_, ok' t.2 _ z⟩
      have kept : ∀ b o, b ∉ tabs.map (·.2) → s.heap.get? b = some o → s'.heap.get? b = some o := fun b o hb get => by
        rcases else_ b hb with z | ⟨rfl, z⟩
        · exact un.keep b o get z (fun y => nomatch (show b ∈ ([] : List Addr) from y)) (fun y => nomatch y)
        · obtain ⟨z1, _⟩ := ok b _ z
          obtain ⟨z2, _⟩ := ok' b _ (un.frzs b _ _ z)
          rw [get] at z1
          cases z1
          exact z2
      refine ⟨rfl, ⟨fun b o get => ?_, fun b o get => ?_⟩, os, bare⟩
      · by_cases hb : b ∈ tabs.map (·.2)
        · obtain ⟨more, z⟩ := grown b hb
          obtain ⟨t, ht, e⟩ := List.mem_map.mp hb
          have z0 := isTab b hb
          rw [get] at z0
          cases z0
          rw [← e] at get z ⊢
          exact .inr (.inl ⟨((tab t ht).2.2.tab get).isCodeTable, rfl, #[], more, rfl, by rw [Array.empty_append]; exact z⟩)
        · exact .inl (kept b o hb get)
      · by_cases hb : b ∈ tabs.map (·.2)
        · obtain ⟨more, z⟩ := grown b hb
          exact ⟨_, z⟩
        · exact ⟨o, kept b o hb get⟩
  cases inTop : K.lookup a with
  | some o =>
    have same := X a o inTop
    rw [script] at same
    cases same
    refine start_ (fun b => if b ∈ tabs.map (·.2) then some (.tbl #[]) else none) (fun q hq => if_pos (asTab q hq)) (fun b hb => .inl (if_neg hb)) (fun z => absurd (if_neg apart) z)
      (.inr ⟨_, vs.toArray, _, inTop, rfl, rfl, rfl, by rw [List.size_toArray, many]; exact Nat.le_trans few line, by simpa using vals⟩)
  | none =>
    refine start_ (fun b => if b ∈ tabs.map (·.2) then some (.tbl #[]) else if b = a then some (.frz { cls := .type "list", data := .seq vs.toArray } (.lst (ns.map V.int))) else none) (fun q hq => if_pos (asTab q hq)) (fun b hb => ?_) (fun _ => inTop)
      (.inl (.inr ⟨_, (if_neg apart).trans (if_pos rfl)⟩))
    by_cases ba : b = a
    · exact .inr ⟨ba, (if_neg hb).trans (if_pos ba)⟩
    · exact .inl ((if_neg hb).trans (if_neg ba))
/-- the goal that k_head leaves -/
theorem walk_fz {l : PySem.W.OpenLaw} {n k : Nat} {q : Program} {loose : List Str} {XP : (Str → Option Value) → Heap → Prop} {YP : World → Heap → Prop} {d : DefRec} {K : Params → PySem.W.Frag} {x : Str}
    (most : l.most = some n) (line : n ≤ sizeLine) (noDef : d.params.defaults = []) (room : Room k callerA) (part : ∀ (w : World) (h : Heap), YP w h → (K w.params).In h)
    (F : ∀ (w : World) (mg mb : Str → Option Value) (fa : Addr) (h : Heap) (lo : List Str) (mean : ExcName → Option Value), (K w.params).In h → Top q lo mean mg mb h → mg d.name = some (.ref fa) → LawEnd l w (K w.params) k n x mg fa h) :
    PySem.W.WalkO q loose XP YP l.row.toRowW d [] (fun f vs => PySem.call f vs) :=
  Att.attach_callB most noDef fun w _ s₁ mg mb fa _ _ _ _ _ vs ns G Y _ _ _ hmg script areInts few bits noGens =>
    law_end (part w _ Y) G.T.g G.T.b G.T.builtins G.T.nolimit noGens G.T.bmain script areInts few line bits room (F w mg mb fa _ _ _ (part w _ Y) G.T hmg)
end Fz

set_option Elab.async false
set_option linter.all false
set_option maxRecDepth 100000
set_option maxHeartbeats 4000000
/-! Own layer, fifth part: a def read off a class and called; values of any kind; numbers within bounds; data of lists. -/
namespace Fz
open PySem PySem.Spec PyProof.Rows L2
section
variable {X : Cx} {CX : CXT} {k : Nat} {C g : Addr} {mc : Value} {fd : FuncData} {ps : List Str} {sp : Sp} {dvs : List V} {ds : List Value} {E : XK} {o e : Expr} {es : List Expr} {m : Str} {pos apos : Pos} {ta : TE} {t : TA} {pl : Sem Bool}
/-- C.m(e, ..), C a class, m a def of it or of one above it -/
def tClsFn (C : Addr) (sp : Sp) (dvs : List V) (E : XK) (ta : TE) (t : TA) : TE := fun σ H Q => ta σ H fun x H1 => x = .ref C ∧ t σ H1 fun vs H2 => sp (vs ++ dvs) H2 Q E
theorem pe_clsFn (he : PE X o ta) (r : ClX.CRead X.K C mc) (found : PySem.W.findCls X.K (.ref C) mc m = some (.val (.ref g))) (F : FnOk X.prog X.w X.K X.mg X.base CX k g fd ps sp) (room : Room k X.A) (keep : PySem.W.keepIn X.K (.ref g) = true) (binds : L2.Binds X.K fd ps ds) (rd : Vals dvs ds)
    (pass : Passes CX X E) (ha : PA X (e :: es) t) (star : starEach (e :: es) X.env = (false, eval e X.env) :: starEach es X.env := by rfl) (plain : (backTo pos (starEach es X.env)).any (·.1) = false := by rfl)
    (tree : eval (.Call (.Attribute o m apos) (e :: es) [] pos) X.env = (do
      let ov ← eval o X.env
      standAt apos.atName
      let (f, first) ← holding [ov] (getMethod ov m pl)
      callWith pos f first (backTo pos (starEach (e :: es) X.env)) (backToKw pos (keywordEach [] X.env))) := by rfl) :
    PE X (.Call (.Attribute o m apos) (e :: es) [] pos) (tClsFn C sp dvs E ta t) := by
  refine ⟨fun pins s σ H Q I hyp => PySem.W.methodCall_KW (pl := pl) (thn (he.run pins s σ H _ I hyp) fun u s1 ⟨x, H1, I1, rx, isC, rest⟩ => ?_) tree⟩
  subst isC
  obtain rfl : u = Value.ref C := rx
  refine PySem.W.method_cls I1.kIn r.ga (PySem.W.cls_value I1.kIn r.rd found rfl ?_)
  have I2 := I1.tok (s1.toks + 1)
  exact PySem.W.callWith_K (first := []) (h₀ := X.base) I2.ok.mod.kin keep (thn (ha.run pos pins _ σ H1 _ I2 rest) fun us s3 ⟨vs, H3, I3, rv, fin⟩ => ⟨I3.kIn, run_fn F room binds rd pass I3 rv fin⟩) star plain
end

/-! ### values of any kind -/
/-- of a built-in kind, what it holds left open -/
def Kd (H : Hp) : V → Prop
  | .non | .bl _ | .int _ | .str _ => True
  | .ref a => (∃ xs, H a = some (.tup xs)) ∨ (∃ xs, H a = some (.lst xs)) ∨ ∃ kvs, H a = some (.dK kvs)
  | _ => False
theorem Kd.keep {H H' : Hp} {x : V} (h : Kd H x) (k : ∀ a o, x = .ref a → H a = some o → H' a = some o) : Kd H' x := by
  cases x with
  | ref a =>
    rcases h with ⟨xs, h⟩ | ⟨xs, h⟩ | ⟨kvs, h⟩
    · exact .inl ⟨xs, k a _ rfl h⟩
    · exact .inr (.inl ⟨xs, k a _ rfl h⟩)
    · exact .inr (.inr ⟨kvs, k a _ rfl h⟩)
  | _ => exact h
def isIntV : V → Bool
  | .int _ => true
  | .bl _ => true
  | _ => false
def isBlV : V → Bool
  | .bl _ => true
  | _ => false
theorem Kd.isInt {K : PySem.W.Frag} {H : Hp} {x : V} (h : Kd H x) : ∃ t, TyX K H x t ∧ PySem.W.kitOne K t (.type "int") = some (isIntV x) ∧ PySem.W.kitOne K t (.type "bool") = some (isBlV x) := by
  cases x with
  | non => exact ⟨_, .base .non, kit_ty (show kitB "NoneType" "int" = some false by decide +kernel), kit_ty (show kitB "NoneType" "bool" = some false by decide +kernel)⟩
  | bl b => exact ⟨_, .base (.bl b), kit_ty (show kitB "bool" "int" = some true by decide +kernel), kit_ty (show kitB "bool" "bool" = some true by decide +kernel)⟩
  | int i => exact ⟨_, .base (.int i), kit_ty (show kitB "int" "int" = some true by decide +kernel), kit_ty (show kitB "int" "bool" = some false by decide +kernel)⟩
  | str z => exact ⟨_, .base (.str z), kit_ty (show kitB "str" "int" = some false by decide +kernel), kit_ty (show kitB "str" "bool" = some false by decide +kernel)⟩
  | ref a =>
    rcases h with ⟨xs, h⟩ | ⟨xs, h⟩ | ⟨kvs, h⟩
    · exact ⟨_, .base (.tup h), kit_ty (show kitB "tuple" "int" = some false by decide +kernel), kit_ty (show kitB "tuple" "bool" = some false by decide +kernel)⟩
    · exact ⟨_, .base (.lst h), kit_ty (show kitB "list" "int" = some false by decide +kernel), kit_ty (show kitB "list" "bool" = some false by decide +kernel)⟩
    · exact ⟨_, .base (.dK h), kit_ty (show kitB "dict" "int" = some false by decide +kernel), kit_ty (show kitB "dict" "bool" = some false by decide +kernel)⟩
  | byt _ => exact h.elim
  | flt _ => exact h.elim
  | ty _ => exact h.elim
/-- an int (no bool) within bounds -/
def numV (lo hi : Int) : V → Bool
  | .int i => decide (lo ≤ i) && decide (i ≤ hi)
  | _ => false
theorem numV_is {lo hi : Int} {x : V} (h : numV lo hi x = true) : ∃ i, x = .int i ∧ lo ≤ i ∧ i ≤ hi := by
  cases x with
  | int i =>
    obtain ⟨a, b⟩ := Bool.and_eq_true_iff.mp h
    exact ⟨i, rfl, of_decide_eq_true a, of_decide_eq_true b⟩
  | _ => exact absurd (show false = true from h) Bool.false_ne_true
theorem small_log {m : Int} (h0 : 0 < m) (h1 : m ≤ 10 ^ 40) : m.natAbs.log2 < 9000 := by
  have h2 : m.natAbs < 2 ^ 9000 := Nat.lt_of_le_of_lt (show m.natAbs ≤ 10 ^ 40 by omega) (by decide +kernel)
  exact (Nat.log2_lt (by omega)).mpr h2

/-! ### data -/
theorem dp_ints {K : PySem.W.Frag} {H : Hp} : ∀ ns : List Int, DpAll K H (ns.map V.int) (ns.map PyData.int)
  | [] => .nil
  | n :: ns => .cons (.int n) (dp_ints ns)
theorem lay_ints : ∀ ns : List Int, PyData.canLayAll0 (ns.map PyData.int) = true
  | [] => by simp only [List.map_nil, PyData.canLayAll0]
  | n :: ns => by
    have ih := lay_ints ns
    simp only [List.map_cons, PyData.canLayAll0, PyData.canLay0, ih, Bool.and_self]
theorem depth_ints : ∀ ns : List Int, PyData.depthAll (ns.map PyData.int) ≤ 1
  | [] => by simp only [List.map_nil, PyData.depthAll]; omega
  | n :: ns => by
    have ih := depth_ints ns
    simp only [List.map_cons, PyData.depthAll, PyData.depth]
    omega
theorem shaped_ints (ns : List Int) : SeqAt.shaped (.list (ns.map PyData.int)) = true := by
  have h1 := depth_ints ns
  have h2 : PyData.depth (.list (ns.map PyData.int)) ≤ 64 := by
    simp only [PyData.depth]
    omega
  show (PyData.canLay0 (.list (ns.map PyData.int)) && decide (PyData.depth (.list (ns.map PyData.int)) ≤ 64)) = true
  rw [Bool.and_eq_true]
  exact ⟨by simp only [PyData.canLay0]; exact lay_ints ns, decide_eq_true h2⟩
theorem at_mod {xs : List V} (i : Int) (h : 0 < xs.length) : ∃ x, x ∈ xs ∧ atI xs (i % (xs.length : Int)) = some x := by
  have hp := mod_place (i := i) h
  have e : xs[(i % (xs.length : Int)).toNat]? = some xs[(i % (xs.length : Int)).toNat] := List.getElem?_eq_getElem hp.1
  refine ⟨_, List.getElem_mem hp.1, ?_⟩
  have z := atI_nat e
  rw [hp.2] at z
  exact z
theorem at_in {xs : List V} {i : Int} (h0 : 0 ≤ i) (h1 : i < xs.length) : ∃ x, x ∈ xs ∧ atI xs i = some x := by
  have hn : i.toNat < xs.length := by omega
  have e : xs[i.toNat]? = some xs[i.toNat] := List.getElem?_eq_getElem hn
  refine ⟨_, List.getElem_mem hn, ?_⟩
  have z := atI_nat e
  rw [show ((i.toNat : Nat) : Int) = i by omega] at z
  exact z
end Fz

set_option Elab.async false
set_option linter.all false
set_option maxRecDepth 100000
set_option maxHeartbeats 4000000
/-! Own layer, sixth part: the text of a list of numbers is short. -/
namespace Fz
open PySem PySem.Spec PyProof.Rows L2
section
variable {X : Cx} {e : Expr} {t : TE}
/-- a reading, closed -/
structure Box (t : TE) (σ : L2.St) (H : Hp) (Q : VK) : Prop where
  open_ : t σ H Q
theorem pe_box (h : PE X e t) : PE X e (Box t) := ⟨fun pins s σ H Q I h' => h.run pins s σ H Q I h'.open_⟩
/-- a reading may be asked for less -/
def tWeak (t : TE) : TE := fun σ H Q => ∃ Q' : VK, t σ H Q' ∧ ∀ x H', Q' x H' → Q x H'
theorem pe_weak (h : PE X e t) : PE X e (tWeak t) :=
  ⟨fun pins s σ H Q I ⟨Q', h', k⟩ => wpAny_mono (h.run pins s σ H Q' I h') (fun _ _ ⟨x, H1, I1, r, q⟩ => ⟨x, H1, I1, r, k _ _ q⟩) fun _ _ z => z⟩
end
/-- the rule for a def of the law that may ask for repr -/
theorem funG {P : Program} {w : World} {K : PySem.W.Frag} {mg : Str → Option Value} {base : Heap} {x qual : Str} {st : Stmt} {f : Addr} {fd : FuncData} {N ps : List Str} {k : Nat} {sp : Sp} (F : Fun K x qual st f fd) (S : FnScope N ps (defScope st)) (len : ∀ vs H Q E, sp vs H Q E → vs.length = ps.length)
    (walk : ∀ (cdv : Value) (A : Around) (outer : List Env) (s : Shared) (H : Hp) (vs : List V) (Q : VK) (E : XK), fd.code = cdv → Room k (A.deeper (envOfC qual (defScope st) s.heap.objs.size f cdv)) → A.guards = some [] → sp vs H Q E →
      ∃ t, PSs (cxOf CX0 P w K mg base N qual (defScope st) f cdv A outer s H E).nox (defBody st) t ∧ t { nx := fun _ H' => Q .non H', rt := Q } (start N vs) H) : FnG P w K mg base CX0 (k + 1) f fd ps sp := by
  obtain ⟨oc, od, kV, doc, pm, an, cdv, ct, osl, rfl, lk, code⟩ := F.ex
  refine fnG_of lk code S len fun A outer s H vs Q E room clear h => ?_
  obtain ⟨t, ht, hq⟩ := walk cdv A outer s H vs Q E rfl room clear h
  exact ⟨t, ht.nox, hq⟩
theorem textFrom_most (m : Nat) : ∀ (ts : List Str) (k : Nat) (acc : Str), (∀ t ∈ ts, t.length ≤ m) → (textFrom k acc ts).length ≤ acc.length + ts.length * (m + 2)
  | [], k, acc, _ => by
    show acc.length ≤ _
    omega
  | t :: r, k, acc, h => by
    have ih := textFrom_most m r (k + 1) (acc ++ (if k > 0 then ", " else "" : String) ++ t) fun u hu => h u (List.mem_cons_of_mem _ hu)
    have ht := h t List.mem_cons_self
    have e : (acc ++ (if k > 0 then ", " else "" : String) ++ t).length ≤ acc.length + 2 + t.length := by
      rw [strLen_append, strLen_append]
      split
      · have z : (Str.ofString ", ").length = 2 := by decide +kernel
        show acc.length + (Str.ofString ", ").length + t.length ≤ _
        omega
      · have z : (Str.ofString "").length = 0 := by decide +kernel
        show acc.length + (Str.ofString "").length + t.length ≤ _
        omega
    show (textFrom (k + 1) _ r).length ≤ _
    have l : (t :: r).length = r.length + 1 := rfl
    rw [l, Nat.add_mul]
    omega
theorem shown_int_short {n : Int} (h0 : 0 ≤ n) (h1 : n < 10 ^ 10) : (PyData.shown (.int n)).length ≤ 10 := by
  rw [PyData.shown]
  exact toString_length_le h0 (by decide) h1
theorem shownAll_ints : ∀ ns : List Int, PyData.shownAll (ns.map PyData.int) = ns.map fun n => PyData.shown (.int n)
  | [] => by simp only [List.map_nil, PyData.shownAll]
  | n :: ns => by
    have ih := shownAll_ints ns
    simp only [List.map_cons, PyData.shownAll, ih]
theorem text_ints {ns : List Int} (h : ∀ n ∈ ns, 0 ≤ n ∧ n < 10 ^ 10) (l : ns.length ≤ 1000) : (PyData.shown (.list (ns.map PyData.int))).length ≤ sizeLine := by
  rw [PyData.shown, shownAll_ints]
  have z := textFrom_most 10 (ns.map fun n => PyData.shown (.int n)) 0 "[" fun t ht => by
    obtain ⟨n, hn, e⟩ := List.mem_map.mp ht
    rw [← e]
    exact shown_int_short (h n hn).1 (h n hn).2
  rw [List.length_map] at z
  have z1 : (Str.ofString "[").length = 1 := by decide +kernel
  have z2 : (Str.ofString "]").length = 1 := by decide +kernel
  have z3 : (textFrom 0 "[" (ns.map fun n => PyData.shown (.int n))).length ≤ 1 + ns.length * 12 := by
    rw [← z1]
    exact z
  show (textFrom 0 "[" _ ++ Str.ofString "]").length ≤ sizeLine
  rw [strLen_append]
  show _ ≤ 16777216
  omega
theorem showable_ints : ∀ {ns : List Int}, (∀ n ∈ ns, 0 ≤ n ∧ n < 10 ^ 10) → PyData.showableAll (ns.map PyData.int) = true
  | [], _ => by simp only [List.map_nil, PyData.showableAll]
  | n :: ns, h => by
    have ih := showable_ints (ns := ns) fun m hm => h m (List.mem_cons_of_mem _ hm)
    obtain ⟨h0, h1⟩ := h n List.mem_cons_self
    have z : n.natAbs.log2 < 1920 := by
      have h2 : n.natAbs < 2 ^ 1920 := Nat.lt_of_lt_of_le (show n.natAbs < 10 ^ 10 by omega) (by decide +kernel)
      by_cases e : n.natAbs = 0
      · rw [e]
        decide +kernel
      · exact (Nat.log2_lt e).mpr h2
    simp only [List.map_cons, PyData.showableAll, PyData.showable, ih, decide_eq_true z, Bool.and_self]
theorem noDict_ints : ∀ ns : List Int, PyData.hasDictAll (ns.map PyData.int) = false
  | [] => by simp only [List.map_nil, PyData.hasDictAll]
  | n :: ns => by
    have ih := noDict_ints ns
    simp only [List.map_cons, PyData.hasDictAll, PyData.hasDict, ih, Bool.or_self]
/-- repr of a list of numbers, in the words that call_repD asks for -/
theorem rep_ints {K : PySem.W.Frag} {H : Hp} {Q : VK} {l : Addr} {ns : List Int} (hl : H l = some (.lst (ns.map V.int))) (h : ∀ n ∈ ns, 0 ≤ n ∧ n < 10 ^ 10) (few : ns.length ≤ 1000) (fin : Q (.str (PyData.shown (.list (ns.map PyData.int)))) H) : rRepD K [.ref l] H Q := by
  refine ⟨⟨l, _, rfl, Dp.lst (SqL.of hl) (dp_ints ns), ?_, ?_, ?_, text_ints h few, fin⟩⟩
  · rw [PyData.showable]
    exact showable_ints h
  · rw [PyData.hasDict]
    exact noDict_ints ns
  · have z := depth_ints ns
    rw [PyData.depth]
    omega
end Fz

set_option Elab.async false
set_option linter.all false
set_option maxRecDepth 100000
set_option maxHeartbeats 2000000
/-! Own layer, seventh part: the words of the laws on rules: the pen, numbers, errors, rules, what is heard. -/
namespace Fz
open PySem PySem.Spec PyProof.Rows L2
/-- at p: the pen, of which at most n draws were made -/
def PenAt (n : Nat) (H : Hp) (p q : Addr) : Prop := ∃ (ns : List Int) (spot great : Int), H p = some (.lst [.ref q, .int spot, .int great]) ∧ H q = some (.lst (ns.map V.int)) ∧ q ≠ p ∧ ns.length ≤ 63 ∧ 0 ≤ spot ∧ spot ≤ n
/-- all but what stands at p is as it was -/
def Mv (p : Addr) (H H' : Hp) : Prop := ∀ b o, b ≠ p → H b = some o → H' b = some o
theorem Mv.refl (p : Addr) (H : Hp) : Mv p H H := fun _ _ _ z => z
theorem Mv.trans {p : Addr} {H H1 H2 : Hp} (a : Mv p H H1) (b : Mv p H1 H2) : Mv p H H2 := fun c o n z => b c o n (a c o n z)
theorem Mv.new {p l : Addr} {H : Hp} {o : HO} (h : H l = none) : Mv p H (upd H l o) := fun b u _ z => by
  rw [upd_ne (ne_of_none z h)]
  exact z
theorem Mv.here {p : Addr} {H : Hp} {o : HO} : Mv p H (upd H p o) := fun b u n z => by
  rw [upd_ne n]
  exact z
theorem PenAt.ne {n : Nat} {H : Hp} {p q : Addr} (h : PenAt n H p q) : q ≠ p := let ⟨_, _, _, _, _, z, _⟩ := h; z
theorem PenAt.there {n : Nat} {H : Hp} {p q : Addr} (h : PenAt n H p q) : H p ≠ none ∧ H q ≠ none := by
  obtain ⟨_, _, _, a, b, _⟩ := h
  exact ⟨fun z => (by rw [a] at z; cases z), fun z => (by rw [b] at z; cases z)⟩
theorem PenAt.fresh {n : Nat} {H : Hp} {p q l : Addr} (h : PenAt n H p q) (hl : H l = none) : l ≠ p ∧ l ≠ q := by
  obtain ⟨a, b⟩ := h.there
  exact ⟨fun z => a (z ▸ hl), fun z => b (z ▸ hl)⟩
theorem PenAt.keep {n m : Nat} {H H' : Hp} {p q : Addr} (h : PenAt n H p q) (le : n ≤ m) (kp : H' p = H p) (kq : H' q = H q) : PenAt m H' p q := by
  obtain ⟨ns, spot, great, a, b, c, d, e, f⟩ := h
  exact ⟨ns, spot, great, by rw [kp]; exact a, by rw [kq]; exact b, c, d, e, by omega⟩
theorem PenAt.put {n : Nat} {H : Hp} {p q l : Addr} {o : HO} (h : PenAt n H p q) (hp : l ≠ p) (hq : l ≠ q) : PenAt n (upd H l o) p q := h.keep (Nat.le_refl _) (upd_ne (Ne.symm hp)) (upd_ne (Ne.symm hq))
theorem PenAt.new {n : Nat} {H : Hp} {p q l : Addr} {o : HO} (h : PenAt n H p q) (hl : H l = none) : PenAt n (upd H l o) p q := h.put (h.fresh hl).1 (h.fresh hl).2
theorem PenAt.same {n : Nat} {H H' : Hp} {p q : Addr} (h : PenAt n H p q) (s : Same H H') : PenAt n H' p q := by
  obtain ⟨ns, spot, great, a, b, c⟩ := h
  exact ⟨ns, spot, great, s _ _ a, s _ _ b, c⟩
theorem PenAt.more {n m : Nat} {H : Hp} {p q : Addr} (h : PenAt n H p q) (le : n ≤ m) : PenAt m H p q := h.keep le rfl rfl
theorem PenAt.lst {n : Nat} {H : Hp} {p q : Addr} (h : PenAt n H p q) : ∃ xs, H p = some (.lst xs) := by
  obtain ⟨_, _, _, a, _⟩ := h
  exact ⟨_, a⟩
theorem PenAt.ext {n : Nat} {H H' : Hp} {p q : Addr} (h : PenAt n H p q) (s : LamX.ExtN H H') : PenAt n H' p q := by
  obtain ⟨ns, spot, great, a, b, c⟩ := h
  exact ⟨ns, spot, great, s _ _ a (fun _ z => nomatch z), s _ _ b (fun _ z => nomatch z), c⟩
theorem PenAt.mv {n : Nat} {H H' : Hp} {p q r : Addr} (h : PenAt n H p q) (m : Mv r H H') (hp : r ≠ p) (hq : r ≠ q) : PenAt n H' p q := by
  obtain ⟨ns, spot, great, a, b, c⟩ := h
  exact ⟨ns, spot, great, m _ _ (Ne.symm hp) a, m _ _ (Ne.symm hq) b, c⟩
/-- the names that the laws mean as Python means them -/
structure Blt (mg : Str → Option Value) : Prop where
  z_int : mg "int" = none
  z_len : mg "len" = none
  z_abs : mg "abs" = none
  z_list : mg "list" = none
  z_range : mg "range" = none
  z_isinstance : mg "isinstance" = none
  z_repr : mg "repr" = none
  z_bool : mg "bool" = none
  z_tuple : mg "tuple" = none
  z_str : mg "str" = none
  z_max : mg "max" = none
  z_min : mg "min" = none
  z_dict : mg "dict" = none
  z_set : mg "set" = none
  z_sorted : mg "sorted" = none
  z_sum : mg "sum" = none
  z_all : mg "all" = none
  z_any : mg "any" = none
  z_zip : mg "zip" = none
  z_enumerate : mg "enumerate" = none
  z_reversed : mg "reversed" = none
def spPen (K : PySem.W.Frag) : Sp := fun vs H Q _ => ∃ (a : Addr) (ns : List Int), vs = [.ref a] ∧ SqL K H a (ns.map V.int) ∧ ns.length ≤ 63 ∧ ∀ H' p q, H p = none → H q = none → PenAt 0 H' p q → Same H H' → Q (.ref p) H'
def spDraw : Sp := fun vs H Q _ => ∃ (n : Nat) (p q : Addr) (m : Int), vs = [.ref p, .int m] ∧ PenAt n H p q ∧ n < 100000 ∧ 0 < m ∧ m.natAbs.log2 < 9000 ∧ ∀ H' r, PenAt (n + 1) H' p q → Mv p H H' → 0 ≤ r → r < m → Q (.int r) H'
def spPick (K : PySem.W.Frag) : Sp := fun vs H Q _ => ∃ (n : Nat) (p q l : Addr) (xs : List V), vs = [.ref p, .ref l] ∧ PenAt n H p q ∧ n < 100000 ∧ l ≠ p ∧ H l = some (.lst xs) ∧ 0 < xs.length ∧ xs.length ≤ 1000 ∧ ∀ H' x, PenAt (n + 1) H' p q → Mv p H H' → x ∈ xs → Q x H'
/-- the rank of a rule -/
def rankI (k a b c e : Int) : Int := (((k * 401 + a) * 401 + b) * 401 + c) * 401 + e
def spNum : Sp := fun vs H Q _ => ∃ (x : V) (lo hi : Int), vs = [x, .int lo, .int hi] ∧ Kd H x ∧ Q (.bl (numV lo hi x)) H
def spBadI (C : Addr) : Sp := fun vs H Q _ => ∃ (a : Addr) (v : V), vs = [.ref a, v] ∧ H a = some (exo a C none) ∧ ∀ d, H d = none → d ≠ a → Q .non (upd (upd H d (exd d [("part", v)])) a (exo a C (some d)))
/-- a BadRule of this part may leave -/
def Bad (C : Addr) (E : XK) (H : Hp) (z : Str) : Prop := ∀ d, H d = none → E (.ref C) (some d) (upd H d (.xd [("part", .str z)]))
def spRank : Sp := fun vs H Q _ => ∃ k a b c e : Int, vs = [.int k, .int a, .int b, .int c, .int e] ∧ 0 ≤ k ∧ k ≤ 1 ∧ 0 ≤ a ∧ a ≤ 400 ∧ 0 ≤ b ∧ b ≤ 400 ∧ 0 ≤ c ∧ c ≤ 400 ∧ 0 ≤ e ∧ e ≤ 400 ∧ ∀ H', Same H H' → Q (.int (rankI k a b c e)) H'
/-- the wrong one of rest and modulus -/
def dueR (r m : V) : Option Str := if numV 1 6 m = true then (match m with | .int i => if numV 0 (i - 1) r = true then none else some "rest" | _ => none) else some "modulus"
def spRested (CB C : Addr) : Sp := fun vs H Q E => ∃ (x dx : Addr) (fs : List (Str × V)) (r m : V), vs = [.ref x, r, m] ∧ H x = some (.ins C dx fs) ∧ fs.length < 900 ∧ Kd H r ∧ Kd H m ∧ (∀ z, dueR r m = some z → Bad CB E H z) ∧
  (dueR r m = none → Q .non (upd H x (.ins C dx (putF "modulus" m (putF "rest" r fs)))))
/-- the wrong one of size and leave -/
def dueS (s l : V) : Option Str := if numV 1 400 s = true then (if numV 0 400 l = true then none else some "leave") else some "size"
def spSized (CB C : Addr) : Sp := fun vs H Q E => ∃ (x dx : Addr) (fs : List (Str × V)) (s l : V), vs = [.ref x, s, l] ∧ H x = some (.ins C dx fs) ∧ fs.length < 900 ∧ Kd H s ∧ Kd H l ∧ (∀ z, dueS s l = some z → Bad CB E H z) ∧
  (dueS s l = none → Q .non (upd H x (.ins C dx (putF "leave" l (putF "size" s fs)))))
/-- the wrong one of the parts of a Down -/
def dueD (t r m : V) : Option Str := if numV 0 400 t = true then dueR r m else some "to"
def dfs (t r m k : Int) : List (Str × V) := putF "rank" (.int k) (putF "start" (.int (t + 1)) (putF "to" (.int t) (putF "modulus" (.int m) (putF "rest" (.int r) []))))
def spDown (CB CD : Addr) : Sp := fun vs H Q E => ∃ (x dx : Addr) (t r m : V), vs = [.ref x, t, r, m] ∧ H x = some (.ins CD dx []) ∧ Kd H t ∧ Kd H r ∧ Kd H m ∧ (∀ z, dueD t r m = some z → Bad CB E H z) ∧
  (∀ (ti ri mi : Int) (H' : Hp), t = .int ti → r = .int ri → m = .int mi → dueD t r m = none → Mv x H H' → H' x = some (.ins CD dx (dfs ti ri mi (rankI 1 ti mi ri 0))) → Q .non H')
/-- the wrong one of the parts of a Fixed -/
def dueF (s r m l : V) : Option Str := match dueS s l with
  | some z => some z
  | none => dueR r m
def ffs (s r m l k : Int) : List (Str × V) := putF "rank" (.int k) (putF "start" (.int (s + l)) (putF "modulus" (.int m) (putF "rest" (.int r) (putF "leave" (.int l) (putF "size" (.int s) [])))))
def spFixed (CB CF : Addr) : Sp := fun vs H Q E => ∃ (x dx : Addr) (s r m l : V), vs = [.ref x, s, r, m, l] ∧ H x = some (.ins CF dx []) ∧ Kd H s ∧ Kd H r ∧ Kd H m ∧ Kd H l ∧ (∀ z H', dueF s r m l = some z → Mv x H H' → Bad CB E H' z) ∧
  (∀ (si ri mi li : Int) (H' : Hp), s = .int si → r = .int ri → m = .int mi → l = .int li → dueF s r m l = none → Mv x H H' → H' x = some (.ins CF dx (ffs si ri mi li (rankI 0 si mi ri li))) → Q .non H')
/-- what the rules' makers ask of the module -/
structure PrgB (K : PySem.W.Frag) (mg : Str → Option Value) (CRl CB fB : Addr) : Prop where
  g_Rule : mg "Rule" = some (.ref CRl)
  g_BadRule : mg "BadRule" = some (.ref CB)
  rdRl : ClX.CRead K CRl (.type "type")
  most : ∃ u, ClX.CVal K CRl (.type "type") "MOST" (.int 400) u
  mostM : ∃ u, ClX.CVal K CRl (.type "type") "MOST_MODULUS" (.int 6) u
  oB : OexC K CB
  nPart : PySem.W.findIn K (.ref CB) "part" = some none
  iB : PySem.W.findIn K (.ref CB) "__init__" = some (some (.ref fB))
  tB : PySem.W.typeIn K (.ref fB) = some (.type "function")
/-- a class whose maker is called by name -/
structure BaseC (K : PySem.W.Frag) (C f : Addr) : Prop where
  rd : ClX.CRead K C (.type "type")
  fn : PySem.W.findCls K (.ref C) (.type "type") "__init__" = some (.val (.ref f))
/-- a class of rules -/
structure InsC (K : PySem.W.Frag) (C : Addr) : Prop where
  cl : Cls K C
  nTo : NoAttr K C "to"
  nSize : NoAttr K C "size"
  nLeave : NoAttr K C "leave"
  nRest : NoAttr K C "rest"
  nModulus : NoAttr K C "modulus"
  nStart : NoAttr K C "start"
  nRank : NoAttr K C "rank"
/-- isinstance may be asked of its objects -/
structure TyC (K : PySem.W.Frag) (C : Addr) : Prop where
  ga : PySem.W.findIn K (.ref C) "__class__" = some (some (.builtin "object.__class__"))
  gn : PySem.W.specialIn K (.builtin "object.__class__") "__get__" = some (some (.builtin "getset_descriptor.__get__"))
  gt : PySem.W.takesIn K (.builtin "object.__class__") = some true
  gm : PySem.W.mroIn K C (.type "object") = some true
theorem TyC.ty {K : PySem.W.Frag} {C x dx : Addr} {H : Hp} {fs : List (Str × V)} (t : TyC K C) (c : Cls K C) (h : H x = some (.ins C dx fs)) : TyX K H (.ref x) (.ref C) := .base (.ins h c t.ga t.gn t.gt t.gm)
theorem int_of_num {lo hi : Int} {x : V} (h : numV lo hi x = true) : ∃ i, x = .int i ∧ lo ≤ i ∧ i ≤ hi := numV_is h
theorem dueS_none {s l : V} (h : dueS s l = none) : ∃ si li : Int, s = .int si ∧ l = .int li ∧ 1 ≤ si ∧ si ≤ 400 ∧ 0 ≤ li ∧ li ≤ 400 := by
  unfold dueS at h
  split at h
  · rename_i e1
    split at h
    · rename_i e2
      obtain ⟨si, rfl, s0, s1⟩ := numV_is e1
      obtain ⟨li, rfl, l0, l1⟩ := numV_is e2
      exact ⟨si, li, rfl, rfl, s0, s1, l0, l1⟩
    · cases h
  · cases h
theorem dueR_none {r m : V} (h : dueR r m = none) : ∃ ri mi : Int, r = .int ri ∧ m = .int mi ∧ 0 ≤ ri ∧ ri ≤ mi - 1 ∧ 1 ≤ mi ∧ mi ≤ 6 := by
  unfold dueR at h
  split at h
  · rename_i e2
    obtain ⟨mi, rfl, m0, m1⟩ := numV_is e2
    have h' : (if numV 0 (mi - 1) r = true then none else some ("rest" : Str)) = none := h
    split at h'
    · rename_i e3
      obtain ⟨ri, rfl, r0, r1⟩ := numV_is e3
      exact ⟨ri, mi, rfl, rfl, r0, r1, m0, m1⟩
    · cases h'
  · cases h
theorem dueD_none {t r m : V} (h : dueD t r m = none) : ∃ ti ri mi : Int, t = .int ti ∧ r = .int ri ∧ m = .int mi ∧ 0 ≤ ti ∧ ti ≤ 400 ∧ 0 ≤ ri ∧ ri ≤ mi - 1 ∧ 1 ≤ mi ∧ mi ≤ 6 := by
  unfold dueD at h
  split at h
  · rename_i e1
    obtain ⟨ti, rfl, t0, t1⟩ := numV_is e1
    obtain ⟨ri, mi, rfl, rfl, z⟩ := dueR_none h
    exact ⟨ti, ri, mi, rfl, rfl, rfl, t0, t1, z⟩
  · cases h
theorem dueF_none {s r m l : V} (h : dueF s r m l = none) : ∃ si ri mi li : Int, s = .int si ∧ r = .int ri ∧ m = .int mi ∧ l = .int li ∧ 1 ≤ si ∧ si ≤ 400 ∧ 0 ≤ ri ∧ ri ≤ mi - 1 ∧ 1 ≤ mi ∧ mi ≤ 6 ∧ 0 ≤ li ∧ li ≤ 400 := by
  unfold dueF at h
  split at h
  · cases h
  · rename_i e
    obtain ⟨si, li, rfl, rfl, s0, s1, l0, l1⟩ := dueS_none e
    obtain ⟨ri, mi, rfl, rfl, r0, r1, m0, m1⟩ := dueR_none h
    exact ⟨si, ri, mi, li, rfl, rfl, rfl, rfl, s0, s1, r0, r1, m0, m1, l0, l1⟩
theorem numV_of {lo hi i : Int} (h0 : lo ≤ i) (h1 : i ≤ hi) : numV lo hi (.int i) = true := by
  show (decide (lo ≤ i) && decide (i ≤ hi)) = true
  rw [decide_eq_true h0, decide_eq_true h1] <;> rfl
theorem dueR_of {r m : Int} (r0 : 0 ≤ r) (r1 : r ≤ m - 1) (m0 : 1 ≤ m) (m1 : m ≤ 6) : dueR (.int r) (.int m) = none := by
  unfold dueR
  rw [numV_of m0 m1]
  show (if numV 0 (m - 1) (.int r) = true then none else some ("rest" : Str)) = none
  rw [numV_of r0 r1]
  rfl
theorem dueD_of {t r m : Int} (t0 : 0 ≤ t) (t1 : t ≤ 400) (r0 : 0 ≤ r) (r1 : r ≤ m - 1) (m0 : 1 ≤ m) (m1 : m ≤ 6) : dueD (.int t) (.int r) (.int m) = none := by
  unfold dueD
  rw [numV_of t0 t1, dueR_of r0 r1 m0 m1]
  rfl
theorem dueF_of {s r m l : Int} (s0 : 1 ≤ s) (s1 : s ≤ 400) (r0 : 0 ≤ r) (r1 : r ≤ m - 1) (m0 : 1 ≤ m) (m1 : m ≤ 6) (l0 : 0 ≤ l) (l1 : l ≤ 400) : dueF (.int s) (.int r) (.int m) (.int l) = none := by
  unfold dueF dueS
  rw [numV_of s0 s1, numV_of l0 l1, dueR_of r0 r1 m0 m1]
  rfl
/-- BadRule(z), raised -/
theorem bad_made {C : Addr} {E : XK} {W : WX} {σ : L2.St} {H : Hp} {z : Str} (h : Bad C E H z) (hW : ∀ cls d H', E cls d H' → W cls d σ H') : tMkO C (spBadI C) [] (tCons (tC (.str z)) tNil) σ H (fun cls d H' => W cls d σ H') := by
  refine ⟨(show 1 ≤ 1000 by decide), fun a ha => ⟨a, .str z, rfl, upd_same, fun d hd ne => ⟨rfl, d, _, upd_same, by rw [upd_ne ne, upd_same], by rw [upd_ne ne] at hd; exact hd, ?_⟩⟩⟩
  have hd0 : H d = none := by rw [upd_ne ne] at hd; exact hd
  have e : upd (del (upd (upd (upd H a (exo a C none)) d (exd d [("part", V.str z)])) a (exo a C (some d))) a) d (.xd [("part", V.str z)]) = upd H d (.xd [("part", V.str z)]) := by
    funext b
    by_cases hb : b = d
    · subst hb
      rw [upd_same, upd_same]
    · rw [upd_ne hb, upd_ne hb]
      by_cases hba : b = a
      · subst hba
        rw [del_same, ha]
      · rw [del_ne hba, upd_ne hba, upd_ne hb, upd_ne hba]
  show W (.ref C) (some d) σ (upd (del (upd (upd (upd H a (exo a C none)) d (exd d [("part", V.str z)])) a (exo a C (some d))) a) d (.xd [("part", V.str z)]))
  rw [e]
  exact hW _ _ _ (h d hd0)
/-- what the hearing of an act asks of the program -/
structure PrgE (K : PySem.W.Frag) (mg : Str → Option Value) (CB CF : Addr) : Prop where
  g_FreeError : mg "FreeError" = some (.ref CF)
  hit : PySem.W.exmOne K (.ref CB) (.ref CF) = some true
  exc : ExcC K CB
  xf : XfC K CB
  same : PySem.W.kitOne K (.ref CB) (.ref CB) = some true
/-- what the hearing makes of an act's reading -/
def TTh (CB : Addr) : (XK → Hp → VK → Prop) → Hp → VK → Prop := fun tl H Q => ∀ H1, Same H H1 →
  tl (fun cls d H' => cls = .ref CB ∧ ∃ (dd : Addr) (z : V), d = some dd ∧ H' dd = some (.xd [("part", z)]) ∧ ∀ H'' t, Same H' H'' → H'' t = some (.tup [.str "part", z]) → Q (.ref t) H'')
    H1 (fun x H' => ∀ H'' l, Same H' H'' → H'' l = some (.lst [x]) → Q (.ref l) H'')
/-- a value of a built-in kind, neither the pen nor l -/
def Good (p l : Addr) (H : Hp) (x : V) : Prop := Kd H x ∧ ∀ a, x = .ref a → a ≠ p ∧ a ≠ l
theorem Good.mv {p l : Addr} {H H' : Hp} {x : V} (h : Good p l H x) (m : Mv p H H') : Good p l H' x := ⟨h.1.keep fun a o e z => m a o (h.2 a e).1 z, h.2⟩
theorem Good.put {p l : Addr} {H : Hp} {x : V} {o : HO} (h : Good p l H x) : Good p l (upd H l o) x := ⟨h.1.keep fun a u e z => by rw [upd_ne (h.2 a e).2]; exact z, h.2⟩
theorem Good.int {p l : Addr} {H : Hp} (i : Int) : Good p l H (.int i) := ⟨True.intro, fun _ z => nomatch z⟩
theorem tabs_mv {T : List (Addr × Str)} {H H' : Hp} {p : Addr} {xs : List V} (hp : H p = some (.lst xs)) (m : Mv p H H') (t : LamX.Tabs T H) : LamX.Tabs T H' := fun b hb => by
  obtain ⟨ps, h1, h2, h3⟩ := t b hb
  refine ⟨ps, m _ _ (fun z => by rw [z, hp] at h1; cases h1) h1, h2, fun pos cv hc => ?_⟩
  obtain ⟨c, e1, e2⟩ := h3 pos cv hc
  exact ⟨c, e1, m _ _ (fun z => by rw [z, hp] at e2; cases e2) e2⟩
theorem Kd.ext {H H' : Hp} {x : V} (h : Kd H x) (s : LamX.ExtN H H') : Kd H' x := by
  cases x with
  | ref a =>
    rcases h with ⟨xs, h⟩ | ⟨xs, h⟩ | ⟨kvs, h⟩
    · exact .inl ⟨xs, s _ _ h fun _ z => nomatch z⟩
    · exact .inr (.inl ⟨xs, s _ _ h fun _ z => nomatch z⟩)
    · exact .inr (.inr ⟨kvs, s _ _ h fun _ z => nomatch z⟩)
  | _ => exact h
theorem made_same {H H' : Hp} {x dx C : Addr} (hx : H x = none) (hd : H dx = none) (m : Mv x (upd (upd H dx (.own x)) x (.ins C dx [])) H') : Same H H' := fun b o e => by
  have n1 := ne_of_none e hx
  have n2 := ne_of_none e hd
  exact m b o n1 (by rw [upd_ne n1, upd_ne n2]; exact e)
theorem extN_same {H H1 H2 : Hp} (a : LamX.ExtN H H1) (b : Same H1 H2) : LamX.ExtN H H2 := a.trans (.of b)
theorem Kd.put {H : Hp} {h : Addr} {xs ys : List V} {x : V} (k : Kd H x) (at_ : H h = some (.lst xs)) : Kd (upd H h (.lst ys)) x := by
  cases x with
  | ref a =>
    by_cases e : a = h
    · subst e
      exact .inr (.inl ⟨ys, upd_same⟩)
    · rcases k with ⟨zs, k⟩ | ⟨zs, k⟩ | ⟨zs, k⟩
      · exact .inl ⟨zs, by rw [upd_ne e]; exact k⟩
      · exact .inr (.inl ⟨zs, by rw [upd_ne e]; exact k⟩)
      · exact .inr (.inr ⟨zs, by rw [upd_ne e]; exact k⟩)
  | _ => exact k
theorem Same.new {H : Hp} {l : Addr} {o : HO} (h : H l = none) : Same H (upd H l o) := fun b u e => by
  rw [upd_ne (ne_of_none e h)]
  exact e
theorem Same.mv {H H' : Hp} (s : Same H H') (p : Addr) : Mv p H H' := fun b o _ e => s b o e
theorem Kd.same {H H' : Hp} {x : V} (h : Kd H x) (s : Same H H') : Kd H' x := h.keep fun a o _ e => s a o e
end Fz
set_option Elab.async false
set_option linter.all false
set_option maxRecDepth 100000
set_option maxHeartbeats 2000000
/-! Own layer, eighth part: rules made, and what is heard of their making. -/
namespace Fz
open PySem PySem.Spec PyProof.Rows L2
def toI : V → Int
  | .int i => i
  | _ => 0
/-- what a law hears of a making: the wrong part, or the object in a list -/
def Ans (C : Addr) (due : Option Str) (fs : Int → List (Str × V)) (H : Hp) (v : V) : Prop := (∃ (z : Str) (a : Addr), due = some z ∧ v = .ref a ∧ H a = some (.tup [.str "part", .str z])) ∨
  ∃ (a x dx : Addr) (k : Int), due = none ∧ v = .ref a ∧ H a = some (.lst [.ref x]) ∧ H x = some (.ins C dx (fs k))
section
variable {C CB : Addr} {due : Option Str} {fs : Int → List (Str × V)} {H H' : Hp} {v : V}
theorem Ans.ext (h : Ans C due fs H v) (s : LamX.ExtN H H') : Ans C due fs H' v := by
  rcases h with ⟨z, a, h1, h2, h3⟩ | ⟨a, x, dx, k, h1, h2, h3, h4⟩
  · exact .inl ⟨z, a, h1, h2, s _ _ h3 (fun _ z => nomatch z)⟩
  · exact .inr ⟨a, x, dx, k, h1, h2, s _ _ h3 (fun _ z => nomatch z), s _ _ h4 (fun _ z => nomatch z)⟩
theorem Ans.put {h : Addr} {a1 : V} {o : HO} {C' : Addr} {due' : Option Str} {fs' : Int → List (Str × V)} (k : Ans C due fs H v) (at_ : H h = some (.lst [a1])) (k1 : Ans C' due' fs' H a1) : Ans C due fs (upd H h o) v := by
  have no : ∀ {x C dx fs}, H x = some (.ins C dx fs) → a1 ≠ .ref x := fun {x C dx fs} hx e => by
    rcases k1 with ⟨_, b, _, e2, z⟩ | ⟨b, _, _, _, _, e2, z, _⟩ <;>
    · rw [e] at e2
      cases e2
      rw [hx] at z
      cases z
  rcases k with ⟨z, a, h1, h2, h3⟩ | ⟨a, x, dx, k, h1, h2, h3, h4⟩
  · exact .inl ⟨z, a, h1, h2, by rw [upd_ne (fun e => by rw [e, at_] at h3; cases h3)]; exact h3⟩
  · refine .inr ⟨a, x, dx, k, h1, h2, ?_, ?_⟩
    · rw [upd_ne (fun e => ?_)]
      · exact h3
      · rw [e, at_] at h3
        exact no h4 (List.cons.inj (HO.lst.inj (Option.some.inj h3))).1
    · rw [upd_ne (fun e => by rw [e, at_] at h4; cases h4)]
      exact h4
/-- what stands in the answer of a making -/
abbrev heardNx (Q : VK) : VK := fun x H' => ∀ H'' l, Same H' H'' → H'' l = some (.lst [x]) → Q (.ref l) H''
abbrev heardEx (CB : Addr) (Q : VK) : XK := fun cls d H' => cls = .ref CB ∧ ∃ (dd : Addr) (z : V), d = some dd ∧ H' dd = some (.xd [("part", z)]) ∧ ∀ H'' t, Same H' H'' → H'' t = some (.tup [.str "part", z]) → Q (.ref t) H''
end
section
variable {CD CB : Addr} {H : Hp} {Q : VK} {t r m z l : V} {x dx : Addr}
theorem up_made {C : Addr} (hx : H x = none) (hd : H dx = none) : Same H (upd (upd H dx (.own x)) x (.ins C dx [])) := fun b o e => by rw [upd_ne (ne_of_none e hx), upd_ne (ne_of_none e hd)]; exact e
theorem down_heard (kt : Kd H t) (kr : Kd H r) (km : Kd H m) (hQ : ∀ H' v, Same H H' → Ans CD (dueD t r m) (fun k => dfs (toI t) (toI r) (toI m) k) H' v → Q v H') (hx : H x = none) (hd : H dx = none) :
    spDown CB CD [.ref x, t, r, m] (upd (upd H dx (.own x)) x (.ins CD dx [])) (fun v H' => v = .non ∧ heardNx Q (.ref x) H') (heardEx CB Q) := by
  have up := up_made (C := CD) hx hd
  refine ⟨x, dx, t, r, m, rfl, upd_same, kt.same up, kr.same up, km.same up, fun z hz d hd2 => ⟨rfl, d, .str z, rfl, upd_same, fun H'' a s at_ => ?_⟩, fun ti ri mi H' e1 e2 e3 hz mv at_ => ⟨rfl, fun H'' a s at2 => ?_⟩⟩
  · exact hQ H'' _ (fun b o e => s b o (by rw [upd_ne (ne_of_none (up b o e) hd2)]; exact up b o e)) (.inl ⟨z, a, hz, rfl, at_⟩)
  · cases e1
    cases e2
    cases e3
    exact hQ H'' _ (fun b o e => s b o (made_same hx hd mv b o e)) (.inr ⟨a, x, dx, _, hz, rfl, at2, s _ _ at_⟩)
theorem down_made (kt : Kd H t) (kr : Kd H r) (km : Kd H m) (none_ : dueD t r m = none) {E : XK} (hx : H x = none) (hd : H dx = none)
    (hQ : ∀ H' k, Same H H' → H' x = some (.ins CD dx (dfs (toI t) (toI r) (toI m) k)) → Q (.ref x) H') :
    spDown CB CD [.ref x, t, r, m] (upd (upd H dx (.own x)) x (.ins CD dx [])) (fun v H' => v = .non ∧ Q (.ref x) H') E := by
  have up := up_made (C := CD) hx hd
  refine ⟨x, dx, t, r, m, rfl, upd_same, kt.same up, kr.same up, km.same up, fun z hz => ?_, fun ti ri mi H' e1 e2 e3 hz mv at_ => ⟨rfl, ?_⟩⟩
  · rw [none_] at hz
    cases hz
  · cases e1
    cases e2
    cases e3
    exact hQ H' _ (made_same hx hd mv) at_
theorem fixed_heard (kz : Kd H z) (kr : Kd H r) (km : Kd H m) (kl : Kd H l) (hQ : ∀ H' v, Same H H' → Ans CD (dueF z r m l) (fun k => ffs (toI z) (toI r) (toI m) (toI l) k) H' v → Q v H') (hx : H x = none) (hd : H dx = none) :
    spFixed CB CD [.ref x, z, r, m, l] (upd (upd H dx (.own x)) x (.ins CD dx [])) (fun v H' => v = .non ∧ heardNx Q (.ref x) H') (heardEx CB Q) := by
  have up := up_made (C := CD) hx hd
  refine ⟨x, dx, z, r, m, l, rfl, upd_same, kz.same up, kr.same up, km.same up, kl.same up, fun y H1 hy mv1 d hd2 => ⟨rfl, d, .str y, rfl, upd_same, fun H'' a s at_ => ?_⟩, fun ti ri mi li H' e1 e2 e3 e4 hz mv at_ => ⟨rfl, fun H'' a s at2 => ?_⟩⟩
  · have s1 := made_same hx hd mv1
    exact hQ H'' _ (fun b o e => s b o (by rw [upd_ne (ne_of_none (s1 b o e) hd2)]; exact s1 b o e)) (.inl ⟨y, a, hy, rfl, at_⟩)
  · cases e1
    cases e2
    cases e3
    cases e4
    exact hQ H'' _ (fun b o e => s b o (made_same hx hd mv b o e)) (.inr ⟨a, x, dx, _, hz, rfl, at2, s _ _ at_⟩)
theorem fixed_made (kz : Kd H z) (kr : Kd H r) (km : Kd H m) (kl : Kd H l) (none_ : dueF z r m l = none) {E : XK} (hx : H x = none) (hd : H dx = none)
    (hQ : ∀ H' k, Same H H' → H' x = some (.ins CD dx (ffs (toI z) (toI r) (toI m) (toI l) k)) → Q (.ref x) H') :
    spFixed CB CD [.ref x, z, r, m, l] (upd (upd H dx (.own x)) x (.ins CD dx [])) (fun v H' => v = .non ∧ Q (.ref x) H') E := by
  have up := up_made (C := CD) hx hd
  refine ⟨x, dx, z, r, m, l, rfl, upd_same, kz.same up, kr.same up, km.same up, kl.same up, fun y H1 hy => ?_, fun ti ri mi li H' e1 e2 e3 e4 hz mv at_ => ⟨rfl, ?_⟩⟩
  · rw [none_] at hy
    cases hy
  · cases e1
    cases e2
    cases e3
    cases e4
    exact hQ H' _ (made_same hx hd mv) at_
theorem dueD_some (h : dueD t r m = some x') : x' = ("to" : Str) ∨ x' = "modulus" ∨ x' = "rest" := by
  unfold dueD at h
  split at h
  · unfold dueR at h
    split at h
    · split at h
      · split at h
        · cases h
        · cases h
          exact .inr (.inr rfl)
      · cases h
    · cases h
      exact .inr (.inl rfl)
  · cases h
    exact .inl rfl
theorem dueF_some {y : Str} (h : dueF z r m l = some y) : y = "size" ∨ y = "leave" ∨ y = "modulus" ∨ y = "rest" := by
  unfold dueF at h
  split at h
  · rename_i e
    cases h
    unfold dueS at e
    split at e
    · split at e
      · cases e
      · cases e
        exact .inr (.inl rfl)
    · cases e
      exact .inl rfl
  · unfold dueR at h
    split at h
    · split at h
      · split at h
        · cases h
        · cases h
          exact .inr (.inr (.inr rfl))
      · cases h
    · cases h
      exact .inr (.inr (.inl rfl))
end
def partNames : List Str := ["to", "size", "leave", "modulus", "rest"]
theorem part_shaped : ∀ z ∈ partNames, SeqAt.shaped (.tuple [.str "part", .str z]) = true := by decide +kernel
end Fz

set_option Elab.async false
set_option linter.all false
set_option maxRecDepth 100000
set_option maxHeartbeats 2000000
/-! Own layer, ninth part: == and != of an instance by its class's own __eq__; str of an instance by its own __str__. -/
namespace Fz
open PySem PySem.Spec PyProof.Rows L2
section
variable {prog : Program} {w : World} {A : Around} {E : Value → Shared → Prop} {s : Shared} {K : PySem.W.Frag} {x C f : Addr} {ox : Obj} {od : Option Obj} {b tb : Value}
theorem bound_ne {M : Model} {args : List Value} {Q : Option Value → Shared → Prop} (X : K.In s.heap) (J : PySem.W.InstAt s.heap x ox C od) (slot : PySem.W.findIn K (.ref C) "__ne__" = some (some (.builtin "object.__ne__")))
    (called : wpAny M A (call (.builtin "object.__ne__") (.ref x :: args)) (fun v => Q (some v)) E s) : wpAny M A (callSpecialIfBound? (.ref x) "__ne__" args) Q E s := by
  simp only [callSpecialIfBound?, bindSpecialIfBound?]
  refine wpAny_holding <| wpAny_bind <| wpAny_bind <| wpAny_bind <| J.type.here <| (PySem.W.looks_findIn X slot).here ?_
  refine wpAny_bind <| wpAny_askSetting <| wpAny_ite ?_
  have end_ : wpAny M A (call (.builtin "object.__ne__") ([.ref x] ++ args) >>= fun v => pure (some v)) Q E s := wpAny_bind (wpAny_mono called (fun _ _ z => wpAny_pure z) fun _ _ z => z)
  split
  · exact wpAny_bind (wpAny_of_eq (F.cmp_object.ne.bind _) <| wpAny_pure (by exact end_))
  · exact wpAny_tryCatch (wpAny_bind (wpAny_of_eq (F.cmp_object.ne.bind _) <| wpAny_pure (by exact end_)))
theorem body_ne {Q : Fin → Shared → Prop} (room : A.units < cLine) (X : K.In s.heap) (J : PySem.W.InstAt s.heap x ox C od) (own : PySem.W.findIn K (.ref C) "__eq__" = some (some (.ref f))) (isF : PySem.W.isFn K (.ref f) = true)
    (called : wpAny (model prog w) A (call (.ref f) [.ref x, b]) (fun v s' => ∃ c, v = .bool c ∧ Q (.done (.ret (.bool (!c)))) s') E s) : wpAny (model prog w) A (Builtin.«object.__ne__» ⟨[.ref x, b], []⟩) Q E s := by
  unfold Builtin.«object.__ne__»
  repeat (first
    | with_reducible refine wpAny_cRoomFor room ?_
    | (refine wpAny_bind (m := callSpecialIfBound? (.ref x) (Str.ofString "__eq__") [b]) (PySem.W.ifBound_K X J own isF (wpAny_mono called (fun r s' z => by
          obtain ⟨c, rfl, q⟩ := z
          repeat (first | exact q | exact wpAny_pure q | exact wpAny_truthy_bool q | (refine wpAny_bind (m := truthy (.bool _)) (wpAny_truthy_bool ?_)) | wp_step)) fun _ _ z => z)))
    | wp_step)
theorem ne_own {Q : Value → Shared → Prop} (room : A.units + 1 < cLine) (X : K.In s.heap) (J : PySem.W.InstAt s.heap x ox C od) (isTb : PySem.W.Looks (model prog w) s.heap (typeOf b) tb) (first_ : PySem.W.notFirst K C tb = true)
    (slot : PySem.W.findIn K (.ref C) "__ne__" = some (some (.builtin "object.__ne__"))) (hm : PySem.W.mroIn K C (.type "object") = some true) (own : PySem.W.findIn K (.ref C) "__eq__" = some (some (.ref f))) (isF : PySem.W.isFn K (.ref f) = true)
    (called : wpAny (model prog w) A.in1 (call (.ref f) [.ref x, b]) (fun v s' => ∃ c, v = .bool c ∧ Q (.bool (!c)) s') E s) : wpAny (model prog w) A (richCompare .NotEq (.ref x) b) Q E s := by
  have one : wpAny (model prog w) A (tryCompare (.ref x) "__ne__" b) (fun r s' => ∃ v, r = some v ∧ Q v s') E s := by
    unfold tryCompare
    refine wpAny_bind <| bound_ne X J slot ?_
    refine wpAny_call <| codeAny_call_builtin F.cmp_object.ne.plain F.cmpEntry_ne <| PySem.W.check_slot F.cmpKind_ne F.cmpSplit_ne (J.type.andThen (PySem.W.looks_mroIn X hm)) (F.cmpArgs_ne _ _) ?_
    refine body_ne (A := A.in1) room X J own isF <| wpAny_mono called (fun v s' z => ?_) fun _ _ z => z
    obtain ⟨c, rfl, q⟩ := z
    exact ⟨c, rfl, wpAny_pure ⟨_, rfl, q⟩⟩
  unfold richCompare
  simp only [oneThing_ref]
  refine wpAny_holding <| wpAny_bind <| wpAny_cRoomFor (Nat.lt_of_succ_lt room) ?_
  rw [cmpInfo_NotEq]
  refine wpAny_bind <| J.type.here <| wpAny_bind <| isTb.here ?_
  split
  · rename_i q
    have below : PySem.W.subIn K tb (.ref C) = some false := by
      rcases Bool.or_eq_true_iff.mp first_ with z | z
      · rw [beq_iff_eq.mp z] at q
        simp at q
      · exact beq_iff_eq.mp z
    refine wpAny_bind <| (PySem.W.looks_subIn X below).here ?_
    simp only [Bool.false_eq_true, if_false]
    refine wpAny_bind <| wpAny_mono one (fun r s' z => ?_) fun _ _ z => z
    obtain ⟨v, rfl, q⟩ := z
    exact wpAny_pure q
  · refine wpAny_bind <| wpAny_pure ?_
    simp only [Bool.false_eq_true, if_false]
    refine wpAny_bind <| wpAny_mono one (fun r s' z => ?_) fun _ _ z => z
    obtain ⟨v, rfl, q⟩ := z
    exact wpAny_pure q
end
section
variable {X : Cx} {C f : Addr} {fd : FuncData} {ps : List Str} {sp : Sp} {k : Nat}
/-- x == y, x an instance of the class at C, whose def at f compares by sp -/
def rEqO (K : PySem.W.Frag) (C : Addr) (sp : Sp) : R2 := fun x y H Q => ∃ (a dx : Addr) (fs : List (Str × V)) (t : Value), x = .ref a ∧ H a = some (.ins C dx fs) ∧ TyX K H y t ∧ PySem.W.notFirst K C t = true ∧ sp [x, y] H Q E0
theorem op_eqO (own : PySem.W.findIn X.K (.ref C) "__eq__" = some (some (.ref f))) (isF : PySem.W.isFn X.K (.ref f) = true) (F : FnOk X.prog X.w X.K X.mg X.base CX0 k f fd ps sp) (binds : L2.Binds X.K fd ps []) (room : Room k X.A) : OpR X (compareOp .Eq) (rEqO X.K C sp) := by
  intro pins s σ H x y v u Q I rx ry h
  obtain ⟨a, dx, fs, t, rfl, ha, ty, nf, q⟩ := h
  cases (show v = Value.ref a from rx)
  obtain ⟨mA, O, _⟩ := ins_get I.hok ha
  obtain ⟨od, J, _⟩ := O.look
  obtain ⟨P, Z, p, _⟩ := kit_of I ry ty
  obtain ⟨m, hF⟩ := I.fr
  show wpAny _ _ (richCompare .Eq (.ref a) u) _ _ _
  refine PySem.W.cmp_K (op := .Eq) (tb := t) room.units0 hF I.ok.mod.kin J (Z.ty _ _ I.kIn p) nf own isF ?_
  refine wpAny_mono (run_fn (us := [.ref a, u]) (vs := [.ref a, y]) F room binds .nil pass0 I (.cons rfl (.cons ry .nil)) q) (fun w s' z => ?_) fun _ _ z => z
  obtain ⟨z', H', I', rz, qz⟩ := z
  exact SlX.cmpback rz ⟨z', H', I', rz, qz⟩
/-- x != y of the same -/
def rNeO (K : PySem.W.Frag) (C : Addr) (sp : Sp) : R2 := fun x y H Q => ∃ (a dx : Addr) (fs : List (Str × V)) (t : Value), x = .ref a ∧ H a = some (.ins C dx fs) ∧ TyX K H y t ∧ PySem.W.notFirst K C t = true ∧ sp [x, y] H (fun z H' => ∃ c, z = .bl c ∧ Q (.bl (!c)) H') E0
theorem op_neO (own : PySem.W.findIn X.K (.ref C) "__eq__" = some (some (.ref f))) (isF : PySem.W.isFn X.K (.ref f) = true) (slot : PySem.W.findIn X.K (.ref C) "__ne__" = some (some (.builtin "object.__ne__"))) (hm : PySem.W.mroIn X.K C (.type "object") = some true)
    (F : FnOk X.prog X.w X.K X.mg X.base CX0 k f fd ps sp) (binds : L2.Binds X.K fd ps []) (room : Room (k + 1) X.A) : OpR X (compareOp .NotEq) (rNeO X.K C sp) := by
  intro pins s σ H x y v u Q I rx ry h
  obtain ⟨a, dx, fs, t, rfl, ha, ty, nf, q⟩ := h
  cases (show v = Value.ref a from rx)
  obtain ⟨mA, O, _⟩ := ins_get I.hok ha
  obtain ⟨od, J, _⟩ := O.look
  obtain ⟨P, Z, p, _⟩ := kit_of I ry ty
  show wpAny _ _ (richCompare .NotEq (.ref a) u) _ _ _
  have r2 : Vals [V.ref a, y] [Value.ref a, u] := .cons rfl (.cons ry .nil)
  have many : ([Value.ref a, u] ++ ([] : List Value)).length = ps.length := r2.length.symm.trans (F.len _ _ _ _ q)
  refine ne_own (tb := t) (by have := room.units; omega) I.kIn J (Z.ty _ _ I.kIn p) nf slot hm own isF ?_
  refine wpAny_call (codeAny_mono (F.run X.A.in1 X.stack s H ⟨[.ref a, u], []⟩ ([.ref a, u] ++ []) [.ref a, y] _ E0 room.in1 I.env0.in1 (binds s [.ref a, u] I.kIn many) r2 q) fun res s' got => ?_)
  match res, got with
  | .error e, got => exact got.elim
  | .ok (.ret z), got =>
    obtain ⟨z', H', I', rz, c, rfl, qz⟩ := I.after got
    cases (show z = Value.bool c from rz)
    exact ⟨c, rfl, .bl (!c), H', I', rfl, qz⟩
  | .ok .next, got => exact got.elim
  | .ok .brk, got => exact got.elim
  | .ok .cont, got => exact got.elim
/-- str(x) of an instance -/
def rStrO (C : Addr) (sp : Sp) : List V → Hp → VK → Prop := fun vs H Q => ∃ (a dx : Addr) (fs : List (Str × V)), vs = [.ref a] ∧ H a = some (.ins C dx fs) ∧ sp [.ref a] H (fun z H' => ∃ t, z = .str t ∧ Q (.str t) H') E0
theorem call_strO (own : PySem.W.findIn X.K (.ref C) "__str__" = some (some (.ref f))) (isF : PySem.W.isFn X.K (.ref f) = true) (F : FnOk X.prog X.w X.K X.mg X.base CX0 k f fd ps sp) (binds : L2.Binds X.K fd ps []) (room : Room (k + 2) X.A) : CallR X (.type "str") (rStrO C sp) := by
  intro pins s σ H vs us Q I rvs h
  obtain ⟨a, dx, fs, rfl, ha, q⟩ := h
  obtain ⟨u, rfl, ru⟩ := vals1 rvs
  cases ru
  obtain ⟨mA, O, _⟩ := ins_get I.hok ha
  obtain ⟨od, J, _⟩ := O.look
  have r2 : Vals [V.ref a] [Value.ref a] := .cons rfl .nil
  have many : ([Value.ref a] ++ ([] : List Value)).length = ps.length := r2.length.symm.trans (F.len _ _ _ _ q)
  have room2 : Room k X.A.in1.in1 := (show Room (k + 1) X.A.in1 from Room.in1 room).in1
  refine PySem.W.kso_call (by have := room2.units; omega) I.kIn J own isF ?_
  refine wpAny_call (codeAny_mono (F.run X.A.in1.in1 X.stack s H ⟨[.ref a], []⟩ ([.ref a] ++ []) [.ref a] _ E0 room2 I.env0.in1.in1 (binds s [.ref a] I.kIn many) r2 q) fun res s' got => ?_)
  match res, got with
  | .error e, got => exact got.elim
  | .ok (.ret z), got =>
    obtain ⟨z', H', I', rz, t, rfl, qz⟩ := I.after got
    obtain ⟨tk, e⟩ := (show ∃ tk, z = Value.str t tk from rz)
    cases e
    exact ⟨.str t, H', I', ⟨tk, rfl⟩, qz⟩
  | .ok .next, got => exact got.elim
  | .ok .brk, got => exact got.elim
  | .ok .cont, got => exact got.elim
end
end Fz

set_option Elab.async false
set_option linter.all false
set_option maxRecDepth 100000
set_option maxHeartbeats 2000000
/-! Own layer, tenth part: rules as data. -/
namespace Fz
open PySem PySem.Spec PyProof.Rows L2
/-- a rule's numbers: size, rest, modulus, leave; or to, rest, modulus -/
inductive RD where
  | fixed (s r m l : Int)
  | down (t r m : Int)
deriving DecidableEq
def RD.isF : RD → Bool
  | .fixed _ _ _ _ => true
  | .down _ _ _ => false
def RD.num : RD → Int
  | .fixed s _ _ _ => s
  | .down t _ _ => t
def RD.rest : RD → Int
  | .fixed _ r _ _ => r
  | .down _ r _ => r
def RD.mod : RD → Int
  | .fixed _ _ m _ => m
  | .down _ _ m => m
def RD.leave : RD → Int
  | .fixed _ _ _ l => l
  | .down _ _ _ => 0
def RD.start : RD → Int
  | .fixed s _ _ l => s + l
  | .down t _ _ => t + 1
def RD.kind (d : RD) : Str := if d.isF = true then "fixed" else "down"
/-- its numbers are those of a rule -/
structure RD.Wf (d : RD) : Prop where
  n0 : (if d.isF = true then 1 else 0) ≤ d.num
  n1 : d.num ≤ 400
  r0 : 0 ≤ d.rest
  r1 : d.rest ≤ d.mod - 1
  m0 : 1 ≤ d.mod
  m1 : d.mod ≤ 6
  l0 : 0 ≤ d.leave
  l1 : d.leave ≤ 400
def RD.rank : RD → Int
  | .fixed s r m l => rankI 0 s m r l
  | .down t r m => rankI 1 t m r 0
def RD.fs : RD → List (Str × V)
  | .fixed s r m l => ffs s r m l (rankI 0 s m r l)
  | .down t r m => dfs t r m (rankI 1 t m r 0)
/-- a law's tuple of it -/
def RD.tup (d : RD) : List V := [.str d.kind, .int d.num, .int d.rest, .int d.mod, .int d.leave]
def RD.cls (CF CD : Addr) (d : RD) : Addr := if d.isF = true then CF else CD
/-- the rule stands at x -/
def RuleAt (CF CD : Addr) (H : Hp) (x : Addr) (d : RD) : Prop := ∃ dx, H x = some (.ins (d.cls CF CD) dx d.fs)
theorem RuleAt.same {CF CD : Addr} {H H' : Hp} {x : Addr} {d : RD} (h : RuleAt CF CD H x d) (s : Same H H') : RuleAt CF CD H' x d := h.imp fun _ z => s _ _ z
theorem RuleAt.mv {CF CD : Addr} {H H' : Hp} {p x : Addr} {d : RD} {n : Nat} {q : Addr} (h : RuleAt CF CD H x d) (pen : PenAt n H p q) (s : Mv p H H') : RuleAt CF CD H' x d := by
  obtain ⟨dx, z⟩ := h
  obtain ⟨xs, hp⟩ := pen.lst
  exact ⟨dx, s _ _ (fun e => by rw [e, hp] at z; cases z) z⟩
theorem RuleAt.ext {CF CD : Addr} {H H' : Hp} {x : Addr} {d : RD} (h : RuleAt CF CD H x d) (s : LamX.ExtN H H') : RuleAt CF CD H' x d := h.imp fun _ z => s _ _ z (fun _ z => nomatch z)
theorem rank_inj {d e : RD} (hd : d.Wf) (he : e.Wf) (same : d.isF = e.isF) (h : d.rank = e.rank) : d = e := by
  cases d with
  | fixed s r m l =>
    cases e with
    | fixed s' r' m' l' =>
      have a := hd.n0; have b := hd.n1; have c := hd.r0; have d1 := hd.r1; have e1 := hd.m0; have f := hd.m1; have g := hd.l0; have i := hd.l1
      have a' := he.n0; have b' := he.n1; have c' := he.r0; have d' := he.r1; have e' := he.m0; have f' := he.m1; have g' := he.l0; have i' := he.l1
      simp only [RD.isF, RD.num, RD.rest, RD.mod, RD.leave, if_true] at a b c d1 e1 f g i a' b' c' d' e' f' g' i'
      have h2 : (((0 * 401 + s) * 401 + m) * 401 + r) * 401 + l = (((0 * 401 + s') * 401 + m') * 401 + r') * 401 + l' := h
      have q1 : s = s' := by omega
      have q2 : m = m' := by omega
      have q3 : r = r' := by omega
      have q4 : l = l' := by omega
      rw [q1, q2, q3, q4]
    | down _ _ _ => cases same
  | down t r m =>
    cases e with
    | fixed _ _ _ _ => cases same
    | down t' r' m' =>
      have a := hd.n0; have b := hd.n1; have c := hd.r0; have d1 := hd.r1; have e1 := hd.m0; have f := hd.m1
      have a' := he.n0; have b' := he.n1; have c' := he.r0; have d' := he.r1; have e' := he.m0; have f' := he.m1
      simp only [RD.isF, RD.num, RD.rest, RD.mod, Bool.false_eq_true, if_false] at a b c d1 e1 f a' b' c' d' e' f'
      have h2 : (((1 * 401 + t) * 401 + m) * 401 + r) * 401 + 0 = (((1 * 401 + t') * 401 + m') * 401 + r') * 401 + 0 := h
      have q1 : t = t' := by omega
      have q2 : m = m' := by omega
      have q3 : r = r' := by omega
      rw [q1, q2, q3]
theorem rank_ne {d e : RD} (hd : d.Wf) (he : e.Wf) : (d.isF = e.isF ∧ d.rank = e.rank) ↔ d = e := ⟨fun h => rank_inj hd he h.1 h.2, fun h => by rw [h]; exact ⟨rfl, rfl⟩⟩
theorem fs_rank (d : RD) : d.fs.lookup ("rank" : Str) = some (V.int d.rank) := by cases d <;> rfl
theorem fs_start (d : RD) : d.fs.lookup ("start" : Str) = some (V.int d.start) := by cases d <;> rfl
theorem fs_rest (d : RD) : d.fs.lookup ("rest" : Str) = some (V.int d.rest) := by cases d <;> rfl
theorem fs_modulus (d : RD) : d.fs.lookup ("modulus" : Str) = some (V.int d.mod) := by cases d <;> rfl
section
variable {CF CD CB : Addr} {H : Hp} {Q : VK} {x dx : Addr} {E : XK}
theorem down_rule {t r m : Int} (wf : (RD.down t r m).Wf) (hx : H x = none) (hd : H dx = none) (hQ : ∀ H', Same H H' → RuleAt CF CD H' x (.down t r m) → Q (.ref x) H') :
    spDown CB CD [.ref x, .int t, .int r, .int m] (upd (upd H dx (.own x)) x (.ins CD dx [])) (fun v H' => v = .non ∧ Q (.ref x) H') E := by
  have a := wf.n0; have b := wf.n1; have c := wf.r0; have d := wf.r1; have e := wf.m0; have f := wf.m1
  have none_ : dueD (.int t) (.int r) (.int m) = none := dueD_of a b c d e f
  refine ⟨x, dx, _, _, _, rfl, upd_same, True.intro, True.intro, True.intro, fun z hz => ?_, fun ti ri mi H' e1 e2 e3 hz mv at_ => ⟨rfl, ?_⟩⟩
  · rw [none_] at hz
    cases hz
  · cases e1
    cases e2
    cases e3
    exact hQ H' (made_same hx hd mv) ⟨dx, at_⟩
theorem fixed_rule {s r m l : Int} (wf : (RD.fixed s r m l).Wf) (hx : H x = none) (hd : H dx = none) (hQ : ∀ H', Same H H' → RuleAt CF CD H' x (.fixed s r m l) → Q (.ref x) H') :
    spFixed CB CF [.ref x, .int s, .int r, .int m, .int l] (upd (upd H dx (.own x)) x (.ins CF dx [])) (fun v H' => v = .non ∧ Q (.ref x) H') E := by
  have a := wf.n0; have b := wf.n1; have c := wf.r0; have d := wf.r1; have e := wf.m0; have f := wf.m1; have g := wf.l0; have i := wf.l1
  have none_ : dueF (.int s) (.int r) (.int m) (.int l) = none := dueF_of a b c d e f g i
  refine ⟨x, dx, _, _, _, _, rfl, upd_same, True.intro, True.intro, True.intro, True.intro, fun z _ hz => ?_, fun si ri mi li H' e1 e2 e3 e4 hz mv at_ => ⟨rfl, ?_⟩⟩
  · rw [none_] at hz
    cases hz
  · cases e1
    cases e2
    cases e3
    cases e4
    exact hQ H' (made_same hx hd mv) ⟨dx, at_⟩
end
theorem isDown_down : decide ((V.str "down") = V.str "down") = true := by decide +kernel
theorem isDown_fixed : decide ((V.str "fixed") = V.str "down") = false := by decide +kernel
theorem isFixed_fixed : decide ((V.str "fixed") = V.str "fixed") = true := by decide +kernel
theorem isFixed_down : decide ((V.str "down") = V.str "fixed") = false := by decide +kernel
/-- == of rules of the class at C -/
def spEqR (K : PySem.W.Frag) (C : Addr) : Sp := fun vs H Q _ => ∃ (a dx : Addr) (fs : List (Str × V)) (k : Int) (y : V), vs = [.ref a, y] ∧ H a = some (.ins C dx fs) ∧ fs.lookup ("rank" : Str) = some (V.int k) ∧
  ((∃ (b dy : Addr) (gs : List (Str × V)) (j : Int), y = .ref b ∧ H b = some (.ins C dy gs) ∧ gs.lookup ("rank" : Str) = some (V.int j) ∧ Q (.bl (decide (k = j))) H) ∨ (∃ t, TyX K H y t ∧ PySem.W.kitOne K t (.ref C) = some false ∧ Q (.bl false) H))
def spParts : Sp := fun vs H Q _ => ∃ (n : Nat) (p q : Addr) (most : Int), vs = [.ref p, .int most] ∧ PenAt n H p q ∧ n < 99000 ∧ 1 ≤ most ∧ most ≤ 400 ∧
  ∀ H' tp d, PenAt (n + 6) H' p q → Mv p H H' → H tp = none → H' tp = some (.tup (RD.tup d)) → d.Wf → (d.isF = true → d.num ≤ most ∧ d.leave ≤ (if most ≤ 2 then 2 else most - 1)) → (d.isF = false → d.num < most) → Q (.ref tp) H'
def spRule (CF CD : Addr) : Sp := fun vs H Q _ => ∃ (tp : Addr) (d : RD), vs = [.ref tp] ∧ H tp = some (.tup d.tup) ∧ d.Wf ∧ ∀ H' x, Same H H' → H x = none → RuleAt CF CD H' x d → Q (.ref x) H'
theorem nf_ty {K : PySem.W.Frag} {C : Addr} {n : String} {l : List Value} (e : fastBuiltinMro n = some l) (h : l.contains (.ref C) = false) : PySem.W.notFirst K C (.type n) = true := by
  have z : PySem.W.subIn K (.type n) (.ref C) = some false := by
    show (fastBuiltinMro n).map (·.contains (.ref C)) = some false
    rw [e]
    exact congrArg some h
  unfold PySem.W.notFirst
  rw [z]
  simp
end Fz

set_option Elab.async false
set_option linter.all false
set_option maxRecDepth 100000
set_option maxHeartbeats 2000000
/-! Own layer, eleventh part: rules compared; methods called by keywords; two rules for one expression. -/
namespace Fz
open PySem PySem.Spec PyProof.Rows L2
section
variable {X : Cx} {e : Expr} {t t' : TE}
def tEither (t t' : TE) : TE := fun σ H Q => t σ H Q ∨ t' σ H Q
theorem pe_or (h : PE X e t) (h' : PE X e t') : PE X e (tEither t t') := ⟨fun pins s σ H Q I z => z.elim (h.run pins s σ H Q I) (h'.run pins s σ H Q I)⟩
def rEither (r r' : R2) : R2 := fun x y H Q => r x y H Q ∨ r' x y H Q
end
section
variable {X : Cx} {CX : CXT} {k : Nat} {C f : Addr} {fd : FuncData} {ps ks : List Str} {sp : Sp} {E : XK} {m : Str} {pos apos : Pos} {o : Expr} {kws : List Keyword} {ta : TE} {tk : TA} {g : List Value → List Value → List Value} {gV : List V → List V → List V}
/-- o.m(k = v, ..) -/
def tMethK (C : Addr) (m : Str) (n : Nat) (sp : Sp) (gV : List V → List V → List V) (E : XK) (ta : TE) (tk : TA) : TE := fun σ H Q => ta σ H fun x H1 => ∃ (a dx : Addr) (fs : List (Str × V)), x = .ref a ∧ H1 a = some (.ins C dx fs) ∧ fs.lookup m = none ∧
  tk σ H1 fun zs H2 => zs.length = n ∧ sp (gV [.ref a] zs) H2 Q E
theorem pe_methK0 {pl : Sem Bool} (he : PE X o ta) (c : Cls X.K C) (hm : Meth X.K C m f) (F : FnOk X.prog X.w X.K X.mg X.base CX k f fd ps sp) (room : Room k X.A) (binds : KBn X.K fd ps 1 ks g gV) (pass : Passes CX X E) (hkw : PK X kws tk)
    (named : (backToKw pos (keywordEach kws X.env)).all (·.1.isSome) = true := by rfl) (names : (backToKw pos (keywordEach kws X.env)).filterMap (·.1) = ks := by rfl)
    (plain : ((backTo pos (starEach [] X.env)).any (·.1) || (backToKw pos (keywordEach kws X.env)).any (·.1.isNone)) = false := by rfl)
    (tree : eval (.Call (.Attribute o m apos) [] kws pos) X.env = (do
      let ov ← eval o X.env
      standAt apos.atName
      let (f, first) ← holding [ov] (getMethod ov m pl)
      callWith pos f first (backTo pos (starEach [] X.env)) (backToKw pos (keywordEach kws X.env))) := by rfl) :
    PE X (.Call (.Attribute o m apos) [] kws pos) (tMethK C m ks.length sp gV E ta tk) := by
  refine ⟨fun pins s σ H Q I h => PySem.W.methodCall_KW (pl := pl) (thn (he.run pins s σ H _ I h) fun u s1 ⟨x, H1, I1, rx, a, dx, fs, ex, ea, l, q⟩ => ?_) tree⟩
  subst ex
  obtain rfl : u = Value.ref a := rx
  refine getmeth_ok I1 ea c hm l ?_
  refine PySem.W.callWith_KW0 (first := [.ref a]) (h₀ := X.base) I1.ok.mod.kin hm.kp named ?_ plain
  refine thn (hkw.run pos pins s1 σ H1 _ I1 q) fun ws s2 ⟨zs, H2, I2, rz, len, q2⟩ => ⟨I2.kIn, ?_⟩
  rw [names]
  refine wpAny_call (codeAny_mono (F.run X.A X.stack s2 H2 ⟨[.ref a], ks.zip ws⟩ (g [.ref a] ws) (gV [.ref a] zs) Q E room I2.env0 (binds.to s2 [.ref a] ws I2.kIn rfl (rz.length.symm.trans len)) (binds.rel (.cons rfl .nil) rz) q2) fun res s' got => ?_)
  match res, got with
  | .error err, got => exact pass pins σ H2 s2 err s' I2 got
  | .ok (.ret u), got => exact I2.after got
  | .ok .next, got => exact got.elim
  | .ok .brk, got => exact got.elim
  | .ok .cont, got => exact got.elim
end
/-- what the comparing of rules asks -/
structure PrgQ (K : PySem.W.Frag) (CF CD : Addr) : Prop where
  icF : InsC K CF
  icD : InsC K CD
  tyF : TyC K CF
  tyD : TyC K CD
  nFD : PySem.W.notFirst K CF (.ref CD) = true
  nDF : PySem.W.notFirst K CD (.ref CF) = true
  kFF : PySem.W.kitOne K (.ref CF) (.ref CF) = some true
  kFD : PySem.W.kitOne K (.ref CF) (.ref CD) = some false
  kDF : PySem.W.kitOne K (.ref CD) (.ref CF) = some false
  kDD : PySem.W.kitOne K (.ref CD) (.ref CD) = some true
  tF : PySem.W.typeIn K (.ref CF) = some (.type "type")
  tD : PySem.W.typeIn K (.ref CD) = some (.type "type")
/-- a value of a built-in type -/
def OtherV (K : PySem.W.Frag) (H : Hp) (y : V) : Prop := ∃ (n : String) (l : List Value), TyX K H y (.type n) ∧ fastBuiltinMro n = some l ∧ ∀ C, l.contains (.ref C) = false
theorem nf_self {K : PySem.W.Frag} {C : Addr} : PySem.W.notFirst K C (.ref C) = true := by
  unfold PySem.W.notFirst
  simp
theorem kit_other {K : PySem.W.Frag} {C : Addr} {n : String} {l : List Value} (hd : PySem.W.hasDictIn K C = true) (tC : PySem.W.typeIn K (.ref C) = some (.type "type")) (e : fastBuiltinMro n = some l) (h : l.contains (.ref C) = false) : PySem.W.kitOne K (.type n) (.ref C) = some false := by
  obtain ⟨cd, hc, _⟩ := PySem.W.any_some hd
  have z : PySem.W.subIn K (.type n) (.ref C) = some false := by
    show (fastBuiltinMro n).map (·.contains (.ref C)) = some false
    rw [e]
    exact congrArg some h
  have ne : (Value.type n == Value.ref C) = false := by simp
  have ok : ((PySem.W.clsIn K C).isSome && PySem.W.typeIn K (.ref C) == some (.type "type")) = true := by rw [hc, tC] <;> rfl
  unfold PySem.W.kitOne
  rw [ne, if_neg Bool.false_ne_true]
  show (if _ then PySem.W.subIn K (.type n) (.ref C) else none) = some false
  rw [if_pos ok]
  exact z
theorem other_non {K : PySem.W.Frag} {H : Hp} : OtherV K H .non := ⟨"NoneType", _, .base .non, rfl, fun C => rfl⟩
theorem other_bl {K : PySem.W.Frag} {H : Hp} (b : Bool) : OtherV K H (.bl b) := ⟨"bool", _, .base (.bl b), rfl, fun C => rfl⟩
theorem other_int {K : PySem.W.Frag} {H : Hp} (i : Int) : OtherV K H (.int i) := ⟨"int", _, .base (.int i), rfl, fun C => rfl⟩
theorem other_str {K : PySem.W.Frag} {H : Hp} (z : Str) : OtherV K H (.str z) := ⟨"str", _, .base (.str z), rfl, fun C => rfl⟩
theorem other_lst {K : PySem.W.Frag} {H : Hp} {a : Addr} {xs : List V} (h : H a = some (.lst xs)) : OtherV K H (.ref a) := ⟨"list", _, .base (.lst h), rfl, fun C => rfl⟩
theorem other_tup {K : PySem.W.Frag} {H : Hp} {a : Addr} {xs : List V} (h : H a = some (.tup xs)) : OtherV K H (.ref a) := ⟨"tuple", _, .base (.tup h), rfl, fun C => rfl⟩
theorem other_dK {K : PySem.W.Frag} {H : Hp} {a : Addr} {kvs : List (Key × V)} (h : H a = some (.dK kvs)) : OtherV K H (.ref a) := ⟨"dict", _, .base (.dK h), rfl, fun C => rfl⟩
theorem OtherV.same {K : PySem.W.Frag} {H H' : Hp} {y : V} (k : Kd H y) (s : Same H H') : OtherV K H' y := by
  cases y with
  | non => exact other_non
  | bl b => exact other_bl b
  | int i => exact other_int i
  | str z => exact other_str z
  | ref a =>
    rcases k with ⟨xs, h⟩ | ⟨xs, h⟩ | ⟨kvs, h⟩
    · exact other_tup (s _ _ h)
    · exact other_lst (s _ _ h)
    · exact other_dK (s _ _ h)
  | flt _ => exact k.elim
  | byt _ => exact k.elim
  | ty _ => exact k.elim
section
variable {K : PySem.W.Frag} {CF CD x y : Addr} {H : Hp} {Q : VK} {d e : RD}
theorem PrgQ.sp_rules (P : PrgQ K CF CD) {C : Addr} {dx dy : Addr} {fs gs : List (Str × V)} {k j : Int} (hx : H x = some (.ins C dx fs)) (rk : fs.lookup ("rank" : Str) = some (V.int k)) (hy : H y = some (.ins C dy gs)) (rj : gs.lookup ("rank" : Str) = some (V.int j)) (fin : Q (.bl (decide (k = j))) H) :
    spEqR K C [.ref x, .ref y] H Q E0 := ⟨x, dx, fs, k, _, rfl, hx, rk, .inl ⟨y, dy, gs, j, rfl, hy, rj, fin⟩⟩
theorem dec_rank (hd : d.Wf) (he : e.Wf) (same : d.isF = e.isF) : decide (d.rank = e.rank) = decide (d = e) := by
  by_cases z : d = e
  · rw [z, decide_eq_true rfl, decide_eq_true rfl]
  · rw [decide_eq_false z, decide_eq_false fun h => z (rank_inj hd he same h)]
theorem eq_rules (P : PrgQ K CF CD) (hx : RuleAt CF CD H x d) (hy : RuleAt CF CD H y e) (wd : d.Wf) (we : e.Wf) (fin : Q (.bl (decide (d = e))) H) : rEither (rEqO K CF (spEqR K CF)) (rEqO K CD (spEqR K CD)) (.ref x) (.ref y) H Q := by
  obtain ⟨dx, ax⟩ := hx
  obtain ⟨dy, ay⟩ := hy
  cases d with
  | fixed s r m l =>
    refine .inl ⟨x, dx, (RD.fixed s r m l).fs, ?_⟩
    cases e with
    | fixed s' r' m' l' =>
      refine ⟨_, rfl, ax, P.tyF.ty P.icF.cl ay, nf_self, P.sp_rules ax (fs_rank (.fixed s r m l)) ay (fs_rank (.fixed s' r' m' l')) ?_⟩
      rw [dec_rank wd we rfl]
      exact fin
    | down t' r' m' =>
      refine ⟨_, rfl, ax, P.tyD.ty P.icD.cl ay, P.nFD, x, dx, _, _, _, rfl, ax, fs_rank (.fixed s r m l), .inr ⟨_, P.tyD.ty P.icD.cl ay, P.kDF, ?_⟩⟩
      rw [decide_eq_false (fun z => nomatch z)] at fin
      exact fin
  | down t r m =>
    refine .inr ⟨x, dx, (RD.down t r m).fs, ?_⟩
    cases e with
    | down t' r' m' =>
      refine ⟨_, rfl, ax, P.tyD.ty P.icD.cl ay, nf_self, P.sp_rules ax (fs_rank (.down t r m)) ay (fs_rank (.down t' r' m')) ?_⟩
      rw [dec_rank wd we rfl]
      exact fin
    | fixed s' r' m' l' =>
      refine ⟨_, rfl, ax, P.tyF.ty P.icF.cl ay, P.nDF, x, dx, _, _, _, rfl, ax, fs_rank (.down t r m), .inr ⟨_, P.tyF.ty P.icF.cl ay, P.kFD, ?_⟩⟩
      rw [decide_eq_false (fun z => nomatch z)] at fin
      exact fin
theorem ne_rules (P : PrgQ K CF CD) (hx : RuleAt CF CD H x d) (hy : RuleAt CF CD H y e) (wd : d.Wf) (we : e.Wf) (fin : Q (.bl (!decide (d = e))) H) : rEither (rNeO K CF (spEqR K CF)) (rNeO K CD (spEqR K CD)) (.ref x) (.ref y) H Q := by
  rcases eq_rules (Q := fun z H' => ∃ c, z = .bl c ∧ Q (.bl (!c)) H') P hx hy wd we ⟨_, rfl, fin⟩ with h | h
  · exact .inl h
  · exact .inr h
theorem eq_other {z : V} (P : PrgQ K CF CD) (hx : RuleAt CF CD H x d) (o : OtherV K H z) (fin : Q (.bl false) H) : rEither (rEqO K CF (spEqR K CF)) (rEqO K CD (spEqR K CD)) (.ref x) z H Q := by
  obtain ⟨dx, ax⟩ := hx
  obtain ⟨n, l, ty, e, no⟩ := o
  cases d with
  | fixed s r m l => exact .inl ⟨x, dx, _, _, rfl, ax, ty, nf_ty e (no CF), x, dx, _, _, _, rfl, ax, fs_rank (.fixed s r m l), .inr ⟨_, ty, kit_other P.icF.cl.hd P.tF e (no CF), fin⟩⟩
  | down t r m => exact .inr ⟨x, dx, _, _, rfl, ax, ty, nf_ty e (no CD), x, dx, _, _, _, rfl, ax, fs_rank (.down t r m), .inr ⟨_, ty, kit_other P.icD.cl.hd P.tD e (no CD), fin⟩⟩
end
section
variable {X : Cx} {CF CD fF fD : Addr} {fdF fdD : FuncData} {ps : List Str}
/-- the == of rules as an operator -/
theorem op_eqR (oF : PySem.W.findIn X.K (.ref CF) "__eq__" = some (some (.ref fF))) (iF : PySem.W.isFn X.K (.ref fF) = true) (F : FnOk X.prog X.w X.K X.mg X.base CX0 1 fF fdF ps (spEqR X.K CF)) (bF : L2.Binds X.K fdF ps [])
    (oD : PySem.W.findIn X.K (.ref CD) "__eq__" = some (some (.ref fD))) (iD : PySem.W.isFn X.K (.ref fD) = true) (D : FnOk X.prog X.w X.K X.mg X.base CX0 1 fD fdD ps (spEqR X.K CD)) (bD : L2.Binds X.K fdD ps []) (room : Room 1 X.A) :
    OpR X (compareOp .Eq) (rEither (rEqO X.K CF (spEqR X.K CF)) (rEqO X.K CD (spEqR X.K CD))) := (op_eqO oF iF F bF room).or (op_eqO oD iD D bD room)
theorem op_neR (oF : PySem.W.findIn X.K (.ref CF) "__eq__" = some (some (.ref fF))) (iF : PySem.W.isFn X.K (.ref fF) = true) (sF : PySem.W.findIn X.K (.ref CF) "__ne__" = some (some (.builtin "object.__ne__"))) (mF : PySem.W.mroIn X.K CF (.type "object") = some true)
    (F : FnOk X.prog X.w X.K X.mg X.base CX0 1 fF fdF ps (spEqR X.K CF)) (bF : L2.Binds X.K fdF ps [])
    (oD : PySem.W.findIn X.K (.ref CD) "__eq__" = some (some (.ref fD))) (iD : PySem.W.isFn X.K (.ref fD) = true) (sD : PySem.W.findIn X.K (.ref CD) "__ne__" = some (some (.builtin "object.__ne__"))) (mD : PySem.W.mroIn X.K CD (.type "object") = some true)
    (D : FnOk X.prog X.w X.K X.mg X.base CX0 1 fD fdD ps (spEqR X.K CD)) (bD : L2.Binds X.K fdD ps []) (room : Room 2 X.A) :
    OpR X (compareOp .NotEq) (rEither (rNeO X.K CF (spEqR X.K CF)) (rNeO X.K CD (spEqR X.K CD))) := (op_neO oF iF sF mF F bF room).or (op_neO oD iD sD mD D bD room)
end
/-! ### the texts of rules -/
def restT (r m : Int) : Str := if m = 1 then "" else (((Str.empty ++ (" rest " : Str)) ++ (toString r : Str)) ++ (" of " : Str)) ++ (toString m : Str)
def leaveT (l : Int) : Str := if l = 0 then "" else (Str.empty ++ (" leave " : Str)) ++ (toString l : Str)
def RD.text : RD → Str
  | .fixed s r m l => (((Str.empty ++ ("fixed " : Str)) ++ (toString s : Str)) ++ restT r m) ++ leaveT l
  | .down t r m => ((Str.empty ++ ("down " : Str)) ++ (toString t : Str)) ++ restT r m
theorem num_short {n : Int} (h0 : 0 ≤ n) (h1 : n ≤ 400) : (toString n : Str).length ≤ 10 := toString_length_le h0 (by decide) (by omega)
theorem restT_short {r m : Int} (r0 : 0 ≤ r) (r1 : r ≤ 400) (m0 : 0 ≤ m) (m1 : m ≤ 400) : (restT r m).length ≤ 40 := by
  unfold restT
  split
  · show (Str.ofString "").length ≤ 40
    decide +kernel
  · have a := num_short r0 r1
    have b := num_short m0 m1
    have c : (Str.empty ++ (" rest " : Str)).length = 6 := by decide +kernel
    have d : (" of " : Str).length = 4 := by decide +kernel
    rw [strLen_append, strLen_append, strLen_append, c, d]
    omega
theorem leaveT_short {l : Int} (l0 : 0 ≤ l) (l1 : l ≤ 400) : (leaveT l).length ≤ 40 := by
  unfold leaveT
  split
  · show (Str.ofString "").length ≤ 40
    decide +kernel
  · have a := num_short l0 l1
    have c : (Str.empty ++ (" leave " : Str)).length = 7 := by decide +kernel
    rw [strLen_append, c]
    omega
theorem num_log {n : Int} (h0 : 0 ≤ n) (h1 : n ≤ 400) : n.natAbs.log2 < 1920 := by
  by_cases e : n.natAbs = 0
  · rw [e]
    decide +kernel
  · exact (Nat.log2_lt e).mpr (Nat.lt_of_le_of_lt (show n.natAbs ≤ 400 by omega) (by decide +kernel))
/-- rest_text(rule), leave_text(rule), str(rule) -/
def spRestT (C : Addr) : Sp := fun vs H Q _ => ∃ (x dx : Addr) (fs : List (Str × V)) (r m : Int), vs = [.ref x] ∧ H x = some (.ins C dx fs) ∧ fs.lookup ("rest" : Str) = some (V.int r) ∧ fs.lookup ("modulus" : Str) = some (V.int m) ∧ 0 ≤ r ∧ r ≤ 400 ∧ 0 ≤ m ∧ m ≤ 400 ∧ Q (.str (restT r m)) H
def spLeaveT (C : Addr) : Sp := fun vs H Q _ => ∃ (x dx : Addr) (fs : List (Str × V)) (l : Int), vs = [.ref x] ∧ H x = some (.ins C dx fs) ∧ fs.lookup ("leave" : Str) = some (V.int l) ∧ 0 ≤ l ∧ l ≤ 400 ∧ Q (.str (leaveT l)) H
def spStrF (CF CD : Addr) : Sp := fun vs H Q _ => ∃ (x : Addr) (s r m l : Int), vs = [.ref x] ∧ RuleAt CF CD H x (.fixed s r m l) ∧ (RD.fixed s r m l).Wf ∧ Q (.str (RD.fixed s r m l).text) H
def spStrD (CF CD : Addr) : Sp := fun vs H Q _ => ∃ (x : Addr) (t r m : Int), vs = [.ref x] ∧ RuleAt CF CD H x (.down t r m) ∧ (RD.down t r m).Wf ∧ Q (.str (RD.down t r m).text) H
/-- rule.leaving(v) -/
def spLeaving (CB CF CD : Addr) : Sp := fun vs H Q E => ∃ (x : Addr) (s r m l : Int) (v : V), vs = [.ref x, v] ∧ RuleAt CF CD H x (.fixed s r m l) ∧ (RD.fixed s r m l).Wf ∧ Kd H v ∧ (∀ z H', dueF (.int s) (.int r) (.int m) v = some z → Same H H' → Bad CB E H' z) ∧
  (∀ H' x', dueF (.int s) (.int r) (.int m) v = none → Same H H' → RuleAt CF CD H' x' (.fixed s r m (toI v)) → Q (.ref x') H')
end Fz

set_option Elab.async false
set_option linter.all false
set_option maxRecDepth 100000
set_option maxHeartbeats 2000000
/-! Own layer, twelfth part: what stays but for the pen and the tables; texts of truths; tuples of rules compared. -/
namespace Fz
open PySem PySem.Spec PyProof.Rows L2
/-- all but the pen at p and the tables of code objects is as it was -/
def MvN (p : Addr) (H H' : Hp) : Prop := ∀ b o, b ≠ p → H b = some o → (∀ ps, o ≠ .tbl ps) → H' b = some o
theorem MvN.refl (p : Addr) (H : Hp) : MvN p H H := fun _ _ _ z _ => z
theorem MvN.trans {p : Addr} {H H1 H2 : Hp} (a : MvN p H H1) (b : MvN p H1 H2) : MvN p H H2 := fun c o n z t => b c o n (a c o n z t) t
theorem Mv.toN {p : Addr} {H H' : Hp} (m : Mv p H H') : MvN p H H' := fun b o n z _ => m b o n z
theorem ext_mvN {p : Addr} {H H' : Hp} (m : LamX.ExtN H H') : MvN p H H' := fun b o _ z t => m b o z t
theorem Same.toN {p : Addr} {H H' : Hp} (m : Same H H') : MvN p H H' := fun b o _ z _ => m b o z
theorem RuleAt.mvN {CF CD : Addr} {H H' : Hp} {p x : Addr} {d : RD} {n : Nat} {q : Addr} (h : RuleAt CF CD H x d) (pen : PenAt n H p q) (s : MvN p H H') : RuleAt CF CD H' x d := by
  obtain ⟨dx, z⟩ := h
  obtain ⟨xs, hp⟩ := pen.lst
  exact ⟨dx, s _ _ (fun e => by rw [e, hp] at z; cases z) z (fun _ z => nomatch z)⟩
theorem tup_mvN {H H' : Hp} {p t : Addr} {xs : List V} {n : Nat} {q : Addr} (h : H t = some (.tup xs)) (pen : PenAt n H p q) (s : MvN p H H') : H' t = some (.tup xs) := by
  obtain ⟨ys, hp⟩ := pen.lst
  exact s _ _ (fun e => by rw [e, hp] at h; cases h) h (fun _ z => nomatch z)
theorem un_mv {H H' : Hp} {p l : Addr} (m : Mv p H H') (n : l ≠ p) (h : H' l = none) : H l = none := by
  cases e : H l with
  | none => rfl
  | some o => rw [m l o n e] at h; cases h
/-! ### truths -/
theorem dp_bools {K : PySem.W.Frag} {H : Hp} : ∀ bs : List Bool, DpAll K H (bs.map V.bl) (bs.map PyData.bool)
  | [] => .nil
  | b :: bs => .cons (.bl b) (dp_bools bs)
theorem shownAll_bools : ∀ bs : List Bool, PyData.shownAll (bs.map PyData.bool) = bs.map fun b => PyData.shown (.bool b)
  | [] => by simp only [List.map_nil, PyData.shownAll]
  | b :: bs => by
    have ih := shownAll_bools bs
    simp only [List.map_cons, PyData.shownAll, ih]
theorem showable_bools : ∀ bs : List Bool, PyData.showableAll (bs.map PyData.bool) = true
  | [] => by simp only [List.map_nil, PyData.showableAll]
  | b :: bs => by
    have ih := showable_bools bs
    simp only [List.map_cons, PyData.showableAll, PyData.showable, ih, Bool.and_self]
theorem noDict_bools : ∀ bs : List Bool, PyData.hasDictAll (bs.map PyData.bool) = false
  | [] => by simp only [List.map_nil, PyData.hasDictAll]
  | b :: bs => by
    have ih := noDict_bools bs
    simp only [List.map_cons, PyData.hasDictAll, PyData.hasDict, ih, Bool.or_self]
theorem depth_bools : ∀ bs : List Bool, PyData.depthAll (bs.map PyData.bool) ≤ 1
  | [] => by simp only [List.map_nil, PyData.depthAll]; omega
  | b :: bs => by
    have ih := depth_bools bs
    simp only [List.map_cons, PyData.depthAll, PyData.depth]
    omega
theorem lay_bools : ∀ bs : List Bool, PyData.canLayAll0 (bs.map PyData.bool) = true
  | [] => by simp only [List.map_nil, PyData.canLayAll0]
  | b :: bs => by
    have ih := lay_bools bs
    simp only [List.map_cons, PyData.canLayAll0, PyData.canLay0, ih, Bool.and_self]
theorem shaped_bools (bs : List Bool) : SeqAt.shaped (.list (bs.map PyData.bool)) = true := by
  have h1 := depth_bools bs
  have h2 : PyData.depth (.list (bs.map PyData.bool)) ≤ 64 := by
    simp only [PyData.depth]
    omega
  show (PyData.canLay0 (.list (bs.map PyData.bool)) && decide (PyData.depth (.list (bs.map PyData.bool)) ≤ 64)) = true
  rw [Bool.and_eq_true]
  exact ⟨by simp only [PyData.canLay0]; exact lay_bools bs, decide_eq_true h2⟩
theorem text_from {ts : List Str} {m : Nat} (h : ∀ t ∈ ts, t.length ≤ m) (few : ts.length * (m + 2) ≤ 1000000) : (listText ts).length ≤ sizeLine := by
  have z := textFrom_most m ts 0 "[" h
  have z1 : (Str.ofString "[").length = 1 := by decide +kernel
  have z2 : (Str.ofString "]").length = 1 := by decide +kernel
  have z3 : (textFrom 0 "[" ts).length ≤ 1 + ts.length * (m + 2) := by
    rw [← z1]
    exact z
  show (textFrom 0 "[" ts ++ Str.ofString "]").length ≤ sizeLine
  rw [strLen_append]
  show _ ≤ 16777216
  omega
theorem rep_bools {K : PySem.W.Frag} {H : Hp} {Q : VK} {l : Addr} {bs : List Bool} (hl : H l = some (.lst (bs.map V.bl))) (few : bs.length ≤ 1000) (fin : Q (.str (PyData.shown (.list (bs.map PyData.bool)))) H) : rRepD K [.ref l] H Q := by
  refine ⟨⟨l, _, rfl, Dp.lst (SqL.of hl) (dp_bools bs), ?_, ?_, ?_, ?_, fin⟩⟩
  · rw [PyData.showable]
    exact showable_bools bs
  · rw [PyData.hasDict]
    exact noDict_bools bs
  · have z := depth_bools bs
    rw [PyData.depth]
    omega
  · rw [PyData.shown, shownAll_bools]
    refine text_from (m := 5) (fun t ht => ?_) (by rw [List.length_map]; omega)
    obtain ⟨b, _, rfl⟩ := List.mem_map.mp ht
    cases b
    · show (Str.ofString "False").length ≤ 5
      decide +kernel
    · show (Str.ofString "True").length ≤ 5
      decide +kernel
/-! ### a law's tuples of rules -/
def RD.dat (d : RD) : PyData := .tuple [.str d.kind, .int d.num, .int d.rest, .int d.mod, .int d.leave]
theorem dp_rd {K : PySem.W.Frag} {H : Hp} {a : Addr} {d : RD} (h : H a = some (.tup d.tup)) : Dp K H (.ref a) d.dat := Dp.tup (SqT.of h) (.cons (.str _) (.cons (.int _) (.cons (.int _) (.cons (.int _) (.cons (.int _) .nil)))))
theorem shaped_rd (d : RD) : SeqAt.shaped d.dat = true := by
  have k : PyData.strOk d.kind = true := by
    cases d
    · show PyData.strOk ("fixed" : Str) = true
      decide +kernel
    · show PyData.strOk ("down" : Str) = true
      decide +kernel
  show (PyData.canLay0 d.dat && decide (PyData.depth d.dat ≤ 64)) = true
  have l : PyData.canLay0 d.dat = true := by
    show PyData.canLay0 (.tuple [.str d.kind, .int d.num, .int d.rest, .int d.mod, .int d.leave]) = true
    simp only [PyData.canLay0, PyData.canLayAll0, k, Bool.and_self]
  have p : PyData.depth d.dat ≤ 64 := by
    show PyData.depth (.tuple [.str d.kind, .int d.num, .int d.rest, .int d.mod, .int d.leave]) ≤ 64
    simp only [PyData.depth, PyData.depthAll]
    decide
  rw [l, decide_eq_true p]
  rfl
theorem eqv_rd (d e : RD) : PyData.eqv d.dat e.dat = decide (d = e) := by
  have key : PyData.eqv d.dat e.dat = ((d.kind == e.kind) && ((d.num == e.num) && ((d.rest == e.rest) && ((d.mod == e.mod) && ((d.leave == e.leave) && true))))) := by
    show PyData.eqv (.tuple [.str d.kind, .int d.num, .int d.rest, .int d.mod, .int d.leave]) (.tuple [.str e.kind, .int e.num, .int e.rest, .int e.mod, .int e.leave]) = _
    simp only [PyData.eqv, PyData.eqvAll]
  rw [key]
  have kf : (("fixed" : Str) == ("down" : Str)) = false := by decide +kernel
  have kf2 : (("down" : Str) == ("fixed" : Str)) = false := by decide +kernel
  cases d with
  | fixed s r m l =>
    cases e with
    | fixed s' r' m' l' =>
      have k : ((RD.fixed s r m l).kind == (RD.fixed s' r' m' l').kind) = true := by
        show (("fixed" : Str) == ("fixed" : Str)) = true
        decide +kernel
      rw [k]
      simp only [RD.num, RD.rest, RD.mod, RD.leave, Bool.true_and, Bool.and_true]
      by_cases h : RD.fixed s r m l = RD.fixed s' r' m' l'
      · cases h
        simp
      · rw [decide_eq_false h]
        refine Bool.eq_false_iff.mpr fun z => h ?_
        simp only [Bool.and_eq_true, beq_iff_eq] at z
        obtain ⟨z1, z2, z3, z4⟩ := z
        rw [z1, z2, z3, z4]
    | down t' r' m' =>
      have k : ((RD.fixed s r m l).kind == (RD.down t' r' m').kind) = false := kf
      rw [k, decide_eq_false (fun z => nomatch z)]
      rfl
  | down t r m =>
    cases e with
    | fixed s' r' m' l' =>
      have k : ((RD.down t r m).kind == (RD.fixed s' r' m' l').kind) = false := kf2
      rw [k, decide_eq_false (fun z => nomatch z)]
      rfl
    | down t' r' m' =>
      have k : ((RD.down t r m).kind == (RD.down t' r' m').kind) = true := by
        show (("down" : Str) == ("down" : Str)) = true
        decide +kernel
      rw [k]
      simp only [RD.num, RD.rest, RD.mod, RD.leave, Bool.true_and, Bool.and_true, beq_self_eq_true]
      by_cases h : RD.down t r m = RD.down t' r' m'
      · cases h
        simp
      · rw [decide_eq_false h]
        refine Bool.eq_false_iff.mpr fun z => h ?_
        simp only [Bool.and_eq_true, beq_iff_eq] at z
        obtain ⟨z1, z2, z3⟩ := z
        rw [z1, z2, z3]
/-- what is heard of rule.leaving(v) -/
theorem leaving_heard {CF CD CB x : Addr} {H : Hp} {Q : VK} {s r m l : Int} {v : V} (hx : RuleAt CF CD H x (.fixed s r m l)) (wf : (RD.fixed s r m l).Wf) (kv : Kd H v)
    (hQ : ∀ H' v', Same H H' → Ans CF (dueF (.int s) (.int r) (.int m) v) (fun _ => (RD.fixed s r m (toI v)).fs) H' v' → Q v' H') : spLeaving CB CF CD [.ref x, v] H (heardNx Q) (heardEx CB Q) :=
  ⟨x, s, r, m, l, v, rfl, hx, wf, kv, fun z H' hz same d hd => ⟨rfl, d, .str z, rfl, upd_same, fun H'' a s2 at_ => hQ H'' _ (fun b o e => s2 b o (by rw [upd_ne (ne_of_none (same b o e) hd)]; exact same b o e)) (.inl ⟨z, a, hz, rfl, at_⟩)⟩,
    fun H' x' hz same hr H'' a s2 at2 => let ⟨dx, at_⟩ := hr; hQ H'' _ (fun b o e => s2 b o (same b o e)) (.inr ⟨a, x', dx, 0, hz, rfl, at2, s2 _ _ at_⟩)⟩
end Fz

set_option Elab.async false
set_option linter.all false
set_option maxRecDepth 100000
set_option maxHeartbeats 2000000
/-! Own layer: numbers as words, the words of rules, the first wrong word (pure). -/
namespace Fz
open PySem PySem.Spec PyProof.Rows L2 TL
/-! ### numbers as words -/
def nT (n : Nat) : Str := (toString ((n : Nat) : Int) : Str)
theorem num_facts : ∀ n : Nat, n < 401 → Txt.isascii (nT n) = true ∧ Txt.isdigit (nT n) = true ∧ (nT n).length = (if n < 10 then 1 else if n < 100 then 2 else 3) := by decide +kernel
theorem nT_reads {n : Nat} (h : n < 401) : PySem.intText? (nT n) = some (n : Int) := PySem.W.KIN.num_reads (by omega) (by omega)
theorem nT_inj {m n : Nat} (h : nT m = nT n) : m = n := by
  have e := congrArg tl h
  unfold nT at e
  rw [tl_num, tl_num] at e
  exact numL_inj e
theorem digit_ascii : ∀ c : Nat, c < 128 → Unicode.isDigit c = true → 48 ≤ c ∧ c ≤ 57 := by decide +kernel
theorem short_val : ∀ cs : List Nat, cs.length ≤ 3 → NumText.AllDigits cs → NumText.digitsVal cs ≤ 999
  | [], _, _ => by decide
  | [a], _, h => by
    have z := h a (by simp)
    show 0 * 10 + (a - 48) ≤ 999
    omega
  | [a, b], _, h => by
    have z := h a (by simp)
    have y := h b (by simp)
    show (0 * 10 + (a - 48)) * 10 + (b - 48) ≤ 999
    omega
  | [a, b, c], _, h => by
    have z := h a (by simp)
    have y := h b (by simp)
    have x := h c (by simp)
    show ((0 * 10 + (a - 48)) * 10 + (b - 48)) * 10 + (c - 48) ≤ 999
    omega
  | _ :: _ :: _ :: _ :: _, l, _ => by simp at l
theorem short_reads {z : Str} (l : z.length ≤ 3) (a : Txt.isascii z = true) (d : Txt.isdigit z = true) : ∃ n : Nat, PySem.intText? z = some (n : Int) ∧ n ≤ 999 := by
  have hl : z.cps.toList.length = z.length := Array.length_toList
  unfold Txt.isdigit at d
  rw [Bool.and_eq_true] at d
  have all : NumText.AllDigits z.cps.toList := fun c hc => by
    have a1 : c < 128 := by
      have q := (Array.all_eq_true_iff_forall_mem.mp a) c (by simpa using hc)
      exact of_decide_eq_true q
    exact digit_ascii c a1 ((Array.all_eq_true_iff_forall_mem.mp d.2) c (by simpa using hc))
  have ne : z.cps.toList ≠ [] := fun e => by
    have q : 0 < z.length := of_decide_eq_true d.1
    rw [e] at hl
    simp at hl
    omega
  exact ⟨_, intText_digits all ne (by omega), short_val _ (by omega) all⟩
/-- the number from lo to hi (at most 400) that a word is -/
def numOf (z : Str) (lo hi : Int) : Option Int := match (List.range 401).find? fun n => decide (nT n = z) with
  | some n => if lo ≤ (n : Int) ∧ (n : Int) ≤ hi then some (n : Int) else none
  | none => none
theorem find_nT {n : Nat} (h : n < 401) : ((List.range 401).find? fun k => decide (nT k = nT n)) = some n := by
  cases e : (List.range 401).find? fun k => decide (nT k = nT n) with
  | none =>
    have q := List.find?_eq_none.mp e n (List.mem_range.mpr h)
    simp at q
  | some m =>
    have q := List.find?_some e
    rw [nT_inj (of_decide_eq_true q)]
theorem numOf_nT {n : Nat} {lo hi : Int} (h : n < 401) : numOf (nT n) lo hi = if lo ≤ (n : Int) ∧ (n : Int) ≤ hi then some (n : Int) else none := by
  unfold numOf
  rw [find_nT h]
theorem numOf_some {z : Str} {lo hi i : Int} (h : numOf z lo hi = some i) : ∃ n : Nat, n < 401 ∧ i = n ∧ z = nT n ∧ lo ≤ i ∧ i ≤ hi := by
  unfold numOf at h
  cases e : (List.range 401).find? fun k => decide (nT k = z) with
  | none => rw [e] at h; cases h
  | some n =>
    rw [e] at h
    dsimp only at h
    have q : nT n = z := of_decide_eq_true (List.find?_some (p := fun k => decide (nT k = z)) e)
    have m := List.mem_range.mp (List.mem_of_find?_eq_some e)
    by_cases c : lo ≤ (n : Int) ∧ (n : Int) ≤ hi
    · rw [if_pos c] at h
      cases h
      exact ⟨n, m, rfl, q.symm, c.1, c.2⟩
    · rw [if_neg c] at h
      cases h
theorem numOf_none {z : Str} {lo hi : Int} (h : ∀ n : Nat, n < 401 → z = nT n → ¬ (lo ≤ (n : Int) ∧ (n : Int) ≤ hi)) : numOf z lo hi = none := by
  cases e : numOf z lo hi with
  | none => rfl
  | some i =>
    obtain ⟨n, hn, rfl, hz, a, b⟩ := numOf_some e
    exact absurd ⟨a, b⟩ (h n hn hz)
def iT (i : Int) : Str := (toString i : Str)
theorem iT_nat (n : Nat) : iT (n : Int) = nT n := rfl
theorem numOf_iT {i lo hi : Int} (h0 : 0 ≤ i) (h1 : i ≤ 400) (a : lo ≤ i) (b : i ≤ hi) : numOf (iT i) lo hi = some i := by
  obtain ⟨n, rfl⟩ := Int.eq_ofNat_of_zero_le h0
  rw [iT_nat, numOf_nT (by omega), if_pos ⟨a, b⟩]
theorem numOf_is {z : Str} {lo hi i : Int} (h : numOf z lo hi = some i) : z = iT i := by
  obtain ⟨n, _, rfl, hz, _⟩ := numOf_some h
  exact hz
/-- the law's look: the word is one of these -/
theorem numOf_mem {z : Str} {lo hi : Int} (h0 : 0 ≤ lo) (h1 : hi ≤ 400) : (numOf z lo hi).isSome = true ↔ ∃ i : Int, lo ≤ i ∧ i ≤ hi ∧ z = iT i := by
  constructor
  · intro h
    obtain ⟨i, e⟩ := Option.isSome_iff_exists.mp h
    obtain ⟨n, _, rfl, hz, a, b⟩ := numOf_some e
    exact ⟨_, a, b, hz⟩
  · rintro ⟨i, a, b, rfl⟩
    rw [numOf_iT (by omega) (by omega) a b]
    rfl
/-! ### words -/
def wFixed : Str := "fixed"
def wDown : Str := "down"
def wRest : Str := "rest"
def wOf : Str := "of"
def wLeave : Str := "leave"
inductive WSlot where
  | one (l : List Str)
  | num (lo hi : Int)
def fitsB (z : Str) : WSlot → Bool
  | .one l => decide (z ∈ l)
  | .num lo hi => (numOf z lo hi).isSome
def goW : List Str → List WSlot → Nat → Option Nat
  | [], [], _ => none
  | [], _ :: _, k => some k
  | _ :: _, [], k => some k
  | z :: zs, s :: sl, k => if fitsB z s = true then goW zs sl (k + 1) else some k
def lowN (z : Str) : Int := if z = wFixed then 1 else 0
/-- the least modulus behind a rest -/
def leastM (ws : List Str) : Int := match ws[3]? with
  | some z => match numOf z 0 5 with
    | some r => if r + 1 > 2 then r + 1 else 2
    | none => 2
  | none => 2
def headIs (ws : List Str) (z : Str) : Bool := decide (ws.take 1 = [z])
def tailSl (fixed : Bool) (t : List Str) : List WSlot := if fixed = true ∧ headIs t wLeave = true then [.one [wLeave], .num 1 400] else []
def slots1 (ws : List Str) : List WSlot := [.one [wFixed, wDown], .num (lowN (ws.headD Str.empty)) 400]
def slots2 (ws : List Str) : List WSlot := if headIs (ws.drop 2) wRest = true then slots1 ws ++ [.one [wRest], .num 0 5, .one [wOf], .num (leastM ws) 6] else slots1 ws
def slotsW (ws : List Str) : List WSlot := slots2 ws ++ tailSl (decide (ws.headD Str.empty = wFixed)) (ws.drop (slots2 ws).length)
def wrongW (ws : List Str) : Option Nat := goW ws (slotsW ws) 0
/-- the law's -/
def tailL (fixed : Bool) (t : List Str) (k : Nat) : Option Nat :=
  if fixed = true ∧ headIs t wLeave = true then (match t[1]? with
    | some z => if (numOf z 1 400).isSome = true then (if t.length > 2 then some (k + 2) else none) else some (k + 1)
    | none => some (k + 1))
  else if t.length > 0 then some k else none
def restL (fixed : Bool) (t : List Str) : Option Nat :=
  match t[1]? with
  | none => some 3
  | some z3 => match numOf z3 0 5 with
    | none => some 3
    | some r => if headIs (t.drop 2) wOf = true then (match t[3]? with
        | none => some 5
        | some z5 => if (numOf z5 (if r + 1 > 2 then r + 1 else 2) 6).isSome = true then tailL fixed (t.drop 4) 6 else some 5)
      else some 4
def wrongL (ws : List Str) : Option Nat :=
  match ws with
  | [] => some 0
  | z0 :: t => if z0 ∈ [wFixed, wDown] then (match t with
      | [] => some 1
      | z1 :: t1 => if (numOf z1 (lowN z0) 400).isSome = true then (if headIs t1 wRest = true then restL (decide (z0 = wFixed)) t1 else tailL (decide (z0 = wFixed)) t1 2) else some 1)
    else some 0
theorem headIs_cons {z y : Str} {t : List Str} : headIs (z :: t) y = decide (z = y) := by
  unfold headIs
  simp
theorem headIs_nil {y : Str} : headIs [] y = false := by
  unfold headIs
  simp
theorem tail_go (fixed : Bool) (t : List Str) (k : Nat) : goW t (tailSl fixed t) k = tailL fixed t k := by
  unfold tailSl tailL
  by_cases h : fixed = true ∧ headIs t wLeave = true
  · rw [if_pos h, if_pos h]
    match t with
    | [] => rw [headIs_nil] at h; exact absurd h.2 (by simp)
    | [z] =>
      rw [headIs_cons] at h
      simp [goW, fitsB, of_decide_eq_true h.2]
    | z :: y :: r =>
      rw [headIs_cons] at h
      have e : fitsB z (.one [wLeave]) = true := by simp [fitsB, of_decide_eq_true h.2]
      simp only [goW, e, if_true, List.getElem?_cons_succ, List.getElem?_cons_zero, List.length_cons]
      by_cases q : (numOf y 1 400).isSome = true
      · rw [if_pos (show fitsB y (.num 1 400) = true from q), if_pos q]
        cases r with
        | nil => rfl
        | cons c r => simp [goW]
      · rw [if_neg (show ¬ fitsB y (.num 1 400) = true from q), if_neg q]
  · rw [if_neg h, if_neg h]
    cases t with
    | nil => rfl
    | cons c r => simp [goW]
theorem wrong_eq {ws : List Str} (ne : ws ≠ []) : wrongW ws = wrongL ws := by
  match ws, ne with
  | [z0], _ =>
    by_cases h : z0 ∈ [wFixed, wDown]
    · simp [wrongW, slotsW, slots2, slots1, tailSl, headIs_nil, goW, fitsB, wrongL, h]
    · have h2 : fitsB z0 (.one [wFixed, wDown]) = false := decide_eq_false h
      have e : ∃ r, slotsW [z0] = .one [wFixed, wDown] :: r := by
        unfold slotsW slots2 slots1
        split <;> exact ⟨_, rfl⟩
      obtain ⟨r, e⟩ := e
      unfold wrongW wrongL
      dsimp only
      rw [e, if_neg h]
      simp [goW, h2]
  | z0 :: z1 :: t1, _ =>
    have low : lowN ((z0 :: z1 :: t1).headD Str.empty) = lowN z0 := rfl
    have hd : (z0 :: z1 :: t1).headD Str.empty = z0 := rfl
    by_cases h : z0 ∈ [wFixed, wDown]
    · have h2 : fitsB z0 (.one [wFixed, wDown]) = true := decide_eq_true h
      by_cases rr : headIs t1 wRest = true
      · have e2 : slots2 (z0 :: z1 :: t1) = [.one [wFixed, wDown], .num (lowN z0) 400, .one [wRest], .num 0 5, .one [wOf], .num (leastM (z0 :: z1 :: t1)) 6] := by
          unfold slots2
          rw [if_pos (show headIs ((z0 :: z1 :: t1).drop 2) wRest = true from rr)]
          rfl
        unfold wrongW slotsW wrongL
        dsimp only
        rw [e2, if_pos h]
        simp only [List.cons_append, List.nil_append, goW, h2, if_true, hd]
        by_cases n1 : (numOf z1 (lowN z0) 400).isSome = true
        · rw [if_pos (show fitsB z1 (.num (lowN z0) 400) = true from n1), if_pos n1, if_pos rr]
          match t1, rr with
          | [], rr => rw [headIs_nil] at rr; cases rr
          | [y2], rr =>
            rw [headIs_cons] at rr
            have e : fitsB y2 (.one [wRest]) = true := by simp [fitsB, of_decide_eq_true rr]
            simp [goW, e, restL]
          | y2 :: y3 :: t3, rr =>
            rw [headIs_cons] at rr
            have e : fitsB y2 (.one [wRest]) = true := by simp [fitsB, of_decide_eq_true rr]
            have lm : leastM (z0 :: z1 :: y2 :: y3 :: t3) = (match numOf y3 0 5 with
              | some r => if r + 1 > 2 then r + 1 else 2
              | none => 2) := rfl
            simp only [goW, e, if_true, restL, List.getElem?_cons_succ, List.getElem?_cons_zero, lm, List.drop_succ_cons, List.drop_zero]
            cases n3 : numOf y3 0 5 with
            | none =>
              have e3 : fitsB y3 (.num 0 5) = false := by show (numOf y3 0 5).isSome = _; rw [n3]; rfl
              simp [e3]
            | some r =>
              have e3 : fitsB y3 (.num 0 5) = true := by show (numOf y3 0 5).isSome = _; rw [n3]; rfl
              simp only [e3, if_true]
              match t3 with
              | [] => simp [goW, headIs_nil]
              | [y4] =>
                by_cases h4 : y4 = wOf
                · have e4 : fitsB y4 (.one [wOf]) = true := by simp [fitsB, h4]
                  simp [goW, e4, headIs_cons, h4, fitsB]
                · have e4 : fitsB y4 (.one [wOf]) = false := by simp [fitsB, h4]
                  simp [goW, e4, headIs_cons, h4, fitsB]
              | y4 :: y5 :: t5 =>
                by_cases h4 : y4 = wOf
                · have e4 : fitsB y4 (.one [wOf]) = true := by simp [fitsB, h4]
                  simp only [goW, e4, if_true, headIs_cons, h4, decide_true, List.getElem?_cons_succ, List.getElem?_cons_zero]
                  cases n5 : (numOf y5 (if r + 1 > 2 then r + 1 else 2) 6).isSome with
                  | false =>
                    have e5 : fitsB y5 (.num (if r + 1 > 2 then r + 1 else 2) 6) = false := n5
                    rw [e5]
                    rfl
                  | true =>
                    have e5 : fitsB y5 (.num (if r + 1 > 2 then r + 1 else 2) 6) = true := n5
                    rw [e5]
                    simp only [if_true]
                    exact tail_go _ _ _
                · have e4 : fitsB y4 (.one [wOf]) = false := by simp [fitsB, h4]
                  simp [goW, e4, headIs_cons, h4, fitsB]
        · rw [if_neg (show ¬ fitsB z1 (.num (lowN z0) 400) = true from n1), if_neg n1]
      · have e2 : slots2 (z0 :: z1 :: t1) = [.one [wFixed, wDown], .num (lowN z0) 400] := by
          unfold slots2
          rw [if_neg (show ¬ headIs ((z0 :: z1 :: t1).drop 2) wRest = true from rr)]
          rfl
        unfold wrongW slotsW wrongL
        dsimp only
        rw [e2, if_pos h]
        simp only [List.cons_append, List.nil_append, goW, h2, if_true, hd]
        by_cases n1 : (numOf z1 (lowN z0) 400).isSome = true
        · rw [if_pos (show fitsB z1 (.num (lowN z0) 400) = true from n1), if_pos n1, if_neg rr]
          exact tail_go _ _ _
        · rw [if_neg (show ¬ fitsB z1 (.num (lowN z0) 400) = true from n1), if_neg n1]
    · have h2 : fitsB z0 (.one [wFixed, wDown]) = false := decide_eq_false h
      have e : ∃ r, slotsW (z0 :: z1 :: t1) = .one [wFixed, wDown] :: r := by
        unfold slotsW slots2 slots1
        split <;> exact ⟨_, rfl⟩
      obtain ⟨r, e⟩ := e
      unfold wrongW wrongL
      dsimp only
      rw [e, if_neg h]
      simp [goW, h2]
/-! ### the words of a rule -/
def restW (r m : Int) : List Str := if m = 1 then [] else [wRest, iT r, wOf, iT m]
def leaveW (l : Int) : List Str := if l = 0 then [] else [wLeave, iT l]
def wordsOf : RD → List Str
  | .fixed s r m l => wFixed :: iT s :: (restW r m ++ leaveW l)
  | .down t r m => wDown :: iT t :: restW r m
theorem low_fixed : lowN wFixed = 1 := rfl
theorem low_down : lowN wDown = 0 := by decide +kernel
theorem fixed_ne : decide (wDown = wFixed) = false := by decide +kernel
theorem leave_rest : decide (wLeave = wRest) = false := by decide +kernel
theorem tail_leave {l : Int} (l0 : 0 ≤ l) (l1 : l ≤ 400) (k : Nat) : tailL true (leaveW l) k = none := by
  unfold leaveW tailL
  by_cases e : l = 0
  · rw [if_pos e, headIs_nil]
    rfl
  · rw [if_neg e, headIs_cons, decide_eq_true rfl]
    simp only [and_self, if_true, List.getElem?_cons_succ, List.getElem?_cons_zero]
    rw [numOf_iT l0 l1 (by omega) l1]
    rfl
theorem tail_down (k : Nat) : tailL false [] k = none := rfl
theorem rest_words {fixed : Bool} {r m : Int} {t : List Str} (r0 : 0 ≤ r) (r1 : r ≤ m - 1) (m0 : 1 ≤ m) (m1 : m ≤ 6) (ne : ¬ m = 1) : restL fixed (wRest :: iT r :: wOf :: iT m :: t) = tailL fixed t 6 := by
  unfold restL
  simp only [List.getElem?_cons_succ, List.getElem?_cons_zero, List.drop_succ_cons, List.drop_zero]
  rw [numOf_iT r0 (by omega) r0 (by omega)]
  simp only [headIs_cons, decide_true, if_true]
  rw [numOf_iT (by omega) (by omega) (by split <;> omega) m1]
  rfl
theorem wrong_words {d : RD} (wf : d.Wf) : wrongL (wordsOf d) = none := by
  have a := wf.n0; have b := wf.n1; have r0 := wf.r0; have r1 := wf.r1; have m0 := wf.m0; have m1 := wf.m1; have l0 := wf.l0; have l1 := wf.l1
  cases d with
  | fixed s r m l =>
    simp only [RD.isF, RD.num, RD.rest, RD.mod, RD.leave, if_true] at a b r0 r1 m0 m1 l0 l1
    unfold wrongL wordsOf
    simp only [List.mem_cons, true_or, if_true, low_fixed, decide_true]
    rw [numOf_iT (by omega) b a b]
    simp only [Option.isSome_some, if_true]
    unfold restW
    by_cases e : m = 1
    · rw [if_pos e, List.nil_append]
      have h : headIs (leaveW l) wRest = false := by
        unfold leaveW
        by_cases z : l = 0
        · rw [if_pos z, headIs_nil]
        · rw [if_neg z, headIs_cons, leave_rest]
      rw [h]
      exact tail_leave l0 l1 2
    · rw [if_neg e]
      simp only [List.cons_append, List.nil_append, headIs_cons, decide_true, if_true]
      rw [rest_words r0 r1 m0 m1 e]
      exact tail_leave l0 l1 6
  | down t r m =>
    simp only [RD.isF, RD.num, RD.rest, RD.mod, RD.leave, Bool.false_eq_true, if_false] at a b r0 r1 m0 m1 l0 l1
    unfold wrongL wordsOf
    simp only [List.mem_cons, true_or, or_true, if_true, low_down, fixed_ne]
    rw [numOf_iT (by omega) b a b]
    simp only [Option.isSome_some, if_true]
    unfold restW
    by_cases e : m = 1
    · rw [if_pos e, headIs_nil]
      rfl
    · rw [if_neg e]
      simp only [headIs_cons, decide_true, if_true]
      rw [rest_words r0 r1 m0 m1 e]
      rfl
theorem some_of {o : Option Int} (h : o.isSome = true) : ∃ i, o = some i := Option.isSome_iff_exists.mp h
/-- what is right is the words of a rule -/
theorem tail_is {fixed : Bool} {t : List Str} {k : Nat} (h : tailL fixed t k = none) : (t = [] ∨ (fixed = true ∧ ∃ l : Int, 1 ≤ l ∧ l ≤ 400 ∧ t = [wLeave, iT l])) := by
  unfold tailL at h
  by_cases c : fixed = true ∧ headIs t wLeave = true
  · rw [if_pos c] at h
    match t, c, h with
    | [], c, _ => rw [headIs_nil] at c; exact absurd c.2 (by simp)
    | [z], _, h => cases h
    | z :: y :: r, c, h =>
      rw [headIs_cons] at c
      simp only [List.getElem?_cons_succ, List.getElem?_cons_zero] at h
      cases e : numOf y 1 400 with
      | none => rw [e] at h; cases h
      | some l =>
        rw [e] at h
        simp only [Option.isSome_some, if_true] at h
        cases r with
        | cons c2 r => simp at h
        | nil =>
          obtain ⟨n, _, _, _, a, b⟩ := numOf_some e
          exact .inr ⟨c.1, l, a, b, by rw [of_decide_eq_true c.2, numOf_is e]⟩
  · rw [if_neg c] at h
    cases t with
    | nil => exact .inl rfl
    | cons z r => simp at h
theorem rest_is {fixed : Bool} {t : List Str} (h : restL fixed t = none) (hd : headIs t wRest = true) : ∃ (r m : Int) (t4 : List Str), 0 ≤ r ∧ r ≤ m - 1 ∧ 2 ≤ m ∧ m ≤ 6 ∧ t = wRest :: iT r :: wOf :: iT m :: t4 ∧ tailL fixed t4 6 = none := by
  unfold restL at h
  match t, hd, h with
  | [], hd, _ => rw [headIs_nil] at hd; cases hd
  | [z], _, h => cases h
  | z2 :: z3 :: t3, hd, h =>
    rw [headIs_cons] at hd
    simp only [List.getElem?_cons_succ, List.getElem?_cons_zero, List.drop_succ_cons, List.drop_zero] at h
    cases e3 : numOf z3 0 5 with
    | none => rw [e3] at h; cases h
    | some r =>
      rw [e3] at h
      simp only at h
      obtain ⟨_, _, _, _, ra, rb⟩ := numOf_some e3
      match t3, h with
      | [], h => rw [headIs_nil] at h; cases h
      | [z4], h =>
        rw [headIs_cons] at h
        by_cases h4 : z4 = wOf
        · rw [decide_eq_true h4] at h; cases h
        · rw [decide_eq_false h4] at h; cases h
      | z4 :: z5 :: t5, h =>
        rw [headIs_cons] at h
        by_cases h4 : z4 = wOf
        · rw [decide_eq_true h4] at h
          simp only [if_true, List.getElem?_cons_succ, List.getElem?_cons_zero] at h
          cases e5 : numOf z5 (if r + 1 > 2 then r + 1 else 2) 6 with
          | none => rw [e5] at h; cases h
          | some m =>
            rw [e5] at h
            simp only [Option.isSome_some, if_true] at h
            obtain ⟨_, _, _, _, ma, mb⟩ := numOf_some e5
            exact ⟨r, m, t5, ra, by split at ma <;> omega, by split at ma <;> omega, mb, by rw [of_decide_eq_true hd, h4, numOf_is e3, numOf_is e5], h⟩
        · rw [decide_eq_false h4] at h; cases h
theorem wrong_is {ws : List Str} (h : wrongL ws = none) : ∃ d : RD, d.Wf ∧ ws = wordsOf d := by
  unfold wrongL at h
  match ws, h with
  | [], h => cases h
  | z0 :: t, h =>
    by_cases h0 : z0 ∈ [wFixed, wDown]
    · simp only [if_pos h0] at h
      match t, h with
      | [], h => cases h
      | z1 :: t1, h =>
        cases e1 : numOf z1 (lowN z0) 400 with
        | none => simp only [e1] at h; cases h
        | some s =>
          simp only [e1, Option.isSome_some, if_true] at h
          obtain ⟨n, _, sn, _, sa, sb⟩ := numOf_some e1
          have s0 : 0 ≤ s := by omega
          rw [List.mem_cons, List.mem_singleton] at h0
          rcases h0 with rfl | rfl
          · rw [low_fixed] at sa
            simp only [decide_true] at h
            by_cases hr : headIs t1 wRest = true
            · rw [if_pos hr] at h
              obtain ⟨r, m, t4, r0, r1, m0, m1, rfl, tl4⟩ := rest_is h hr
              have em : ¬ m = 1 := by omega
              rcases tail_is tl4 with rfl | ⟨_, l, l0, l1, rfl⟩
              · exact ⟨.fixed s r m 0, ⟨sa, sb, r0, r1, by show 1 ≤ m; omega, m1, by show (0 : Int) ≤ 0; decide, by show (0 : Int) ≤ 400; decide⟩, by
                  unfold wordsOf restW leaveW
                  dsimp only
                  rw [if_neg em, if_pos rfl, numOf_is e1]
                  rfl⟩
              · exact ⟨.fixed s r m l, ⟨sa, sb, r0, r1, by show 1 ≤ m; omega, m1, by show 0 ≤ l; omega, l1⟩, by
                  unfold wordsOf restW leaveW
                  dsimp only
                  rw [if_neg em, if_neg (by omega), numOf_is e1]
                  rfl⟩
            · rw [if_neg hr] at h
              rcases tail_is h with rfl | ⟨_, l, l0, l1, rfl⟩
              · exact ⟨.fixed s 0 1 0, ⟨sa, sb, by show (0 : Int) ≤ 0; decide, by show (0 : Int) ≤ 1 - 1; decide, by show (1 : Int) ≤ 1; decide, by show (1 : Int) ≤ 6; decide, by show (0 : Int) ≤ 0; decide, by show (0 : Int) ≤ 400; decide⟩, by
                  unfold wordsOf restW leaveW
                  dsimp only
                  rw [if_pos rfl, if_pos rfl, numOf_is e1]
                  rfl⟩
              · exact ⟨.fixed s 0 1 l, ⟨sa, sb, by show (0 : Int) ≤ 0; decide, by show (0 : Int) ≤ 1 - 1; decide, by show (1 : Int) ≤ 1; decide, by show (1 : Int) ≤ 6; decide, by show 0 ≤ l; omega, l1⟩, by
                  unfold wordsOf restW leaveW
                  dsimp only
                  rw [if_pos rfl, if_neg (by omega), numOf_is e1]
                  rfl⟩
          · rw [low_down] at sa
            rw [fixed_ne] at h
            by_cases hr : headIs t1 wRest = true
            · rw [if_pos hr] at h
              obtain ⟨r, m, t4, r0, r1, m0, m1, rfl, tl4⟩ := rest_is h hr
              have em : ¬ m = 1 := by omega
              rcases tail_is tl4 with rfl | ⟨f, _⟩
              · exact ⟨.down s r m, ⟨sa, sb, r0, r1, by show 1 ≤ m; omega, m1, by show (0 : Int) ≤ 0; decide, by show (0 : Int) ≤ 400; decide⟩, by
                  unfold wordsOf restW
                  dsimp only
                  rw [if_neg em, numOf_is e1]⟩
              · cases f
            · rw [if_neg hr] at h
              rcases tail_is h with rfl | ⟨f, _⟩
              · exact ⟨.down s 0 1, ⟨sa, sb, by show (0 : Int) ≤ 0; decide, by show (0 : Int) ≤ 1 - 1; decide, by show (1 : Int) ≤ 1; decide, by show (1 : Int) ≤ 6; decide, by show (0 : Int) ≤ 0; decide, by show (0 : Int) ≤ 400; decide⟩, by
                  unfold wordsOf restW
                  dsimp only
                  rw [if_pos rfl, numOf_is e1]⟩
              · cases f
    · simp only [if_neg h0] at h
      cases h
/-! ### texts and their words -/
def sp1 : Str := " "
theorem tl_sp : tl sp1 = 32 :: [] := by decide +kernel
theorem sp_small : sp1.cps.all (· < 256) = true := by decide +kernel
theorem iT_tl {i : Int} (h0 : 0 ≤ i) : ∃ n : Nat, tl (iT i) = numL n := by
  obtain ⟨n, rfl⟩ := Int.eq_ofNat_of_zero_le h0
  exact ⟨n, tl_num n⟩
theorem iT_free {i : Int} (h0 : 0 ≤ i) : 32 ∉ tl (iT i) := by
  obtain ⟨n, e⟩ := iT_tl h0
  rw [e]
  exact numL_free (by omega)
theorem words_free {d : RD} (wf : d.Wf) : ∀ p ∈ wordsOf d, 32 ∉ tl p := by
  have a := wf.n0; have r0 := wf.r0; have m0 := wf.m0; have l0 := wf.l0
  have k0 : 32 ∉ tl wFixed := by decide +kernel
  have k1 : 32 ∉ tl wDown := by decide +kernel
  have k2 : 32 ∉ tl wRest := by decide +kernel
  have k3 : 32 ∉ tl wOf := by decide +kernel
  have k4 : 32 ∉ tl wLeave := by decide +kernel
  intro p hp
  cases d with
  | fixed s r m l =>
    simp only [RD.isF, RD.num, RD.rest, RD.mod, RD.leave, if_true] at a r0 m0 l0
    unfold wordsOf restW leaveW at hp
    simp only [List.mem_cons, List.mem_append] at hp
    rcases hp with rfl | rfl | hp | hp
    · exact k0
    · exact iT_free (by omega)
    · split at hp
      · cases hp
      · simp only [List.mem_cons, List.not_mem_nil, or_false] at hp
        rcases hp with rfl | rfl | rfl | rfl
        · exact k2
        · exact iT_free r0
        · exact k3
        · exact iT_free (by omega)
    · split at hp
      · cases hp
      · simp only [List.mem_cons, List.not_mem_nil, or_false] at hp
        rcases hp with rfl | rfl
        · exact k4
        · exact iT_free l0
  | down t r m =>
    simp only [RD.isF, RD.num, RD.rest, RD.mod, RD.leave, Bool.false_eq_true, if_false] at a r0 m0 l0
    unfold wordsOf restW at hp
    simp only [List.mem_cons] at hp
    rcases hp with rfl | rfl | hp
    · exact k1
    · exact iT_free (by omega)
    · split at hp
      · cases hp
      · simp only [List.mem_cons, List.not_mem_nil, or_false] at hp
        rcases hp with rfl | rfl | rfl | rfl
        · exact k2
        · exact iT_free r0
        · exact k3
        · exact iT_free (by omega)
theorem words_ne (d : RD) : wordsOf d ≠ [] := by
  cases d <;> exact List.cons_ne_nil _ _
theorem tl_rest1 : tl (Str.empty ++ (" rest " : Str)) = 32 :: (tl wRest ++ [32]) := by decide +kernel
theorem tl_of1 : tl (" of " : Str) = 32 :: (tl wOf ++ [32]) := by decide +kernel
theorem tl_leave1 : tl (Str.empty ++ (" leave " : Str)) = 32 :: (tl wLeave ++ [32]) := by decide +kernel
theorem tl_fixed1 : tl (Str.empty ++ ("fixed " : Str)) = tl wFixed ++ [32] := by decide +kernel
theorem tl_down1 : tl (Str.empty ++ ("down " : Str)) = tl wDown ++ [32] := by decide +kernel
theorem tl_none : tl ("" : Str) = [] := by decide +kernel
theorem tl_restT (r m : Int) : tl (restT r m) = (restW r m).flatMap fun p => 32 :: tl p := by
  unfold restT restW
  split
  · exact tl_none
  · rw [tl_append, tl_append, tl_append, tl_rest1, tl_of1]
    simp [iT]
theorem tl_leaveT (l : Int) : tl (leaveT l) = (leaveW l).flatMap fun p => 32 :: tl p := by
  unfold leaveT leaveW
  split
  · exact tl_none
  · rw [tl_append, tl_leave1]
    simp [iT]
theorem joinL_cons : ∀ (p : List Nat) (r : List Str), joinL [32] (p :: r.map tl) = p ++ r.flatMap fun q => 32 :: tl q
  | p, [] => by simp [joinL]
  | p, q :: r => by
    show p ++ ([32] ++ joinL [32] (tl q :: r.map tl)) = _
    rw [joinL_cons (tl q) r]
    simp
theorem join_words (d : RD) : Str.join sp1 (wordsOf d) = d.text := by
  apply ext_tl
  rw [tl_join, tl_sp]
  cases d with
  | fixed s r m l =>
    show joinL [32] (tl wFixed :: (iT s :: (restW r m ++ leaveW l)).map tl) = tl ((((Str.empty ++ ("fixed " : Str)) ++ (toString s : Str)) ++ restT r m) ++ leaveT l)
    rw [joinL_cons, tl_append, tl_append, tl_append, tl_fixed1, tl_restT, tl_leaveT]
    simp [iT, List.flatMap_append]
  | down t r m =>
    show joinL [32] (tl wDown :: (iT t :: restW r m).map tl) = tl (((Str.empty ++ ("down " : Str)) ++ (toString t : Str)) ++ restT r m)
    rw [joinL_cons, tl_append, tl_append, tl_down1, tl_restT]
    simp [iT]
theorem split_text {d : RD} (wf : d.Wf) : Txt.split d.text sp1 = wordsOf d := by
  rw [← join_words d, ← join_eq]
  exact split_join tl_sp sp_small (words_ne d) (words_free wf)
theorem text_of_split {z : Str} {d : RD} (h : Txt.split z sp1 = wordsOf d) : z = d.text := by
  rw [← join_words d, ← h]
  exact (StrLaws.join_split z sp1).symm
end Fz

set_option Elab.async false
set_option linter.all false
set_option maxRecDepth 100000
set_option maxHeartbeats 2000000
/-! Own layer, thirteenth part: a value of a built-in type == an instance: its own __eq__ answers. -/
namespace Fz
open PySem PySem.Spec PyProof.Rows L2
open PySem.AutoSeq1 (wpAny_loadPart')
open PySem.MeetsSeq PySem.SeqAt
section
variable {c : Value} {dd : Option Addr} {sl : Array (Option Value)}
theorem dec_bool (b : Bool) (l : Addr) (c : Value) (dd : Option Addr) (sl : Array (Option Value)) :
    Meets (Builtin.«int.__eq__» ⟨[.bool b, .ref l], []⟩) (fun _ R s => s.heap.get? l = some { cls := c, dict := dd, data := .plain, slots := sl } ∧ R (.ok (.ret .notImplemented)) s) := .of_wp fun prog w A R s h => by
  obtain ⟨hp, g, d, tk, os⟩ := s
  obtain ⟨hl, h⟩ := h
  wp_walk using wpAny_loadPart' hl, wpAny_load hl
  exact ⟨_, rfl, h⟩
theorem dec_int (b : Int) (u : Tok) (l : Addr) (c : Value) (dd : Option Addr) (sl : Array (Option Value)) :
    Meets (Builtin.«int.__eq__» ⟨[.int b u, .ref l], []⟩) (fun _ R s => s.heap.get? l = some { cls := c, dict := dd, data := .plain, slots := sl } ∧ R (.ok (.ret .notImplemented)) s) := .of_wp fun prog w A R s h => by
  obtain ⟨hp, g, d, tk, os⟩ := s
  obtain ⟨hl, h⟩ := h
  wp_walk using wpAny_loadPart' hl, wpAny_load hl
  exact ⟨_, rfl, h⟩
theorem dec_str (b : Str) (u : Tok) (l : Addr) (c : Value) (dd : Option Addr) (sl : Array (Option Value)) :
    Meets (Builtin.«str.__eq__» ⟨[.str b u, .ref l], []⟩) (fun _ R s => s.heap.get? l = some { cls := c, dict := dd, data := .plain, slots := sl } ∧ R (.ok (.ret .notImplemented)) s) := .of_wp fun prog w A R s h => by
  obtain ⟨hp, g, d, tk, os⟩ := s
  obtain ⟨hl, h⟩ := h
  wp_walk using wpAny_loadPart' hl, wpAny_load hl
  exact ⟨_, rfl, h⟩
end
section
variable {prog : Program} {w : World} {A : Around} {s : Shared} {K : PySem.W.Frag} {x C l : Addr} {ox : Obj} {od : Option Obj} {R : Result → Shared → Prop}
theorem not_inst {M : Model} {E : Value → Shared → Prop} {T : String} {Q : Bool → Shared → Prop} (X : K.In s.heap) (J : PySem.W.InstAt s.heap x ox C od) (sub : PySem.W.subIn K (.ref C) (.type T) = some false) (h : Q false s) : wpAny M A (isInstance (.ref x) (.type T)) Q E s := by
  unfold isInstance
  exact wpAny_bind (J.type.here ((PySem.W.looks_subIn X sub).here h))
theorem dec_list (X : K.In s.heap) (J : PySem.W.InstAt s.heap x ox C od) (sub : PySem.W.subIn K (.ref C) (.type "list") = some false) {items : Array Value} {n : Nat} (hl : s.heap.get? l = some { cls := .type "list", data := .seq items n }) (h : R (.ok (.ret .notImplemented)) s) :
    wpAny (model prog w) A.in1 (Builtin.«list.__eq__» ⟨[.ref l, .ref x], []⟩) (GQ.FinOf prog w A R) (fun e s' => R (.error e) s') s := by
  have no : ∀ {Q : Bool → Shared → Prop} {E : Value → Shared → Prop}, Q false s → wpAny (model prog w) A.in1 (isInstance (.ref x) (.type "list")) Q E s := fun q => not_inst X J sub q
  obtain ⟨hp, g, d, tk, os⟩ := s
  wp_walk using no
  exact h
theorem dec_tuple (X : K.In s.heap) (J : PySem.W.InstAt s.heap x ox C od) (sub : PySem.W.subIn K (.ref C) (.type "tuple") = some false) (h : R (.ok (.ret .notImplemented)) s) :
    wpAny (model prog w) A.in1 (Builtin.«tuple.__eq__» ⟨[.ref l, .ref x], []⟩) (GQ.FinOf prog w A R) (fun e s' => R (.error e) s') s := by
  have no : ∀ {Q : Bool → Shared → Prop} {E : Value → Shared → Prop}, Q false s → wpAny (model prog w) A.in1 (isInstance (.ref x) (.type "tuple")) Q E s := fun q => not_inst X J sub q
  obtain ⟨hp, g, d, tk, os⟩ := s
  wp_walk using no
  exact h
theorem dec_dict (X : K.In s.heap) (J : PySem.W.InstAt s.heap x ox C od) (sub : PySem.W.subIn K (.ref C) (.type "dict") = some false) (h : R (.ok (.ret .notImplemented)) s) :
    wpAny (model prog w) A.in1 (Builtin.«dict.__eq__» ⟨[.ref l, .ref x], []⟩) (GQ.FinOf prog w A R) (fun e s' => R (.error e) s') s := by
  have no : ∀ {Q : Bool → Shared → Prop} {E : Value → Shared → Prop}, Q false s → wpAny (model prog w) A.in1 (isInstance (.ref x) (.type "dict")) Q E s := fun q => not_inst X J sub q
  obtain ⟨hp, g, d, tk, os⟩ := s
  wp_walk using no
  exact h
end
/-! ### the reflected == -/
section
variable {prog : Program} {w : World} {A : Around} {E : Value → Shared → Prop} {s : Shared} {K : PySem.W.Frag} {x C f : Addr} {ox : Obj} {od : Option Obj} {u : Value} {T id : String}
theorem eq_back {Q : Value → Shared → Prop} (room : A.units < cLine) (X : K.In s.heap) (J : PySem.W.InstAt s.heap x ox C od) (hT : s.TypeIs u T) (sub : PySem.W.subIn K (.ref C) (.type T) = some false) (S : Slot T "__eq__" id)
    (dec : ∀ Q' : Value → Shared → Prop, Q' .notImplemented s → wpAny (model prog w) A (call (.builtin id) [u, .ref x]) Q' E s) (own : PySem.W.findIn K (.ref C) "__eq__" = some (some (.ref f))) (isF : PySem.W.isFn K (.ref f) = true)
    (called : wpAny (model prog w) A (call (.ref f) [.ref x, u]) (PySem.W.CmpBack Q) E s) : wpAny (model prog w) A (richCompare .Eq u (.ref x)) Q E s := by
  have one : wpAny (model prog w) A (tryCompare (.ref x) "__eq__" u) (fun r s' => ∃ v, r = some v ∧ Q v s') E s := by
    unfold tryCompare
    refine wpAny_bind (PySem.W.ifBound_K X J own isF (wpAny_mono called (fun v s' z => ?_) fun _ _ z => z))
    cases v <;> first
      | exact z.elim
      | exact wpAny_pure ⟨_, rfl, z⟩
  simp only [richCompare, cmpInfo_Eq, hT.oneThing_none]
  refine wpAny_holding <| wpAny_bind <| wpAny_cRoomFor room ?_
  refine wpAny_bind <| wpAny_typeOf hT <| wpAny_bind <| J.type.here ?_
  split
  · refine wpAny_bind <| (PySem.W.looks_subIn X sub).here ?_
    simp only [Bool.false_eq_true, if_false, Bool.not_false, if_true]
    refine wpAny_bind (m := tryCompare u _ (.ref x)) <| wpAny_tryCompare_declines hT S <| dec _ ⟨rfl, ?_⟩
    refine wpAny_bind (m := tryCompare (.ref x) _ u) <| wpAny_mono one (fun r s' z => ?_) fun _ _ z => z
    obtain ⟨v, rfl, q⟩ := z
    exact wpAny_pure q
  · rename_i q
    exact absurd (by simp) q
end
/-- the class at C is below no built-in type of these -/
structure NotB (K : PySem.W.Frag) (C : Addr) : Prop where
  non : PySem.W.subIn K (.ref C) (.type "NoneType") = some false
  bl : PySem.W.subIn K (.ref C) (.type "bool") = some false
  int : PySem.W.subIn K (.ref C) (.type "int") = some false
  str : PySem.W.subIn K (.ref C) (.type "str") = some false
  lst : PySem.W.subIn K (.ref C) (.type "list") = some false
  tup : PySem.W.subIn K (.ref C) (.type "tuple") = some false
  dct : PySem.W.subIn K (.ref C) (.type "dict") = some false
section
variable {X : Cx} {C f : Addr} {fd : FuncData} {ps : List Str} {sp : Sp} {k : Nat}
/-- v == x, x an instance of the class at C, v a value of a built-in type -/
def rEqBack (C : Addr) (sp : Sp) : R2 := fun v x H Q => ∃ (a dx : Addr) (fs : List (Str × V)), x = .ref a ∧ H a = some (.ins C dx fs) ∧ Kd H v ∧ sp [x, v] H Q E0
theorem op_eqBack (own : PySem.W.findIn X.K (.ref C) "__eq__" = some (some (.ref f))) (isF : PySem.W.isFn X.K (.ref f) = true) (nb : NotB X.K C) (Fd : FnOk X.prog X.w X.K X.mg X.base CX0 k f fd ps sp) (binds : L2.Binds X.K fd ps []) (room : Room k X.A) : OpR X (compareOp .Eq) (rEqBack C sp) := by
  intro pins s σ H v x uv ux Q I rv rx h
  obtain ⟨a, dx, fs, rfl, ha, kd, q⟩ := h
  cases (show ux = Value.ref a from rx)
  obtain ⟨mA, O, _⟩ := ins_get I.hok ha
  obtain ⟨od, J, _⟩ := O.look
  have plain : s.heap.get? a = some { cls := .ref C, dict := some dx, data := .plain } := O.obj
  show wpAny _ _ (richCompare .Eq uv (.ref a)) _ _ _
  have called : wpAny (model X.prog X.w) X.A (call (.ref f) [.ref a, uv]) (PySem.W.CmpBack (EP X pins σ Q)) X.xe s :=
    wpAny_mono (run_fn (us := [.ref a, uv]) (vs := [.ref a, v]) Fd room binds .nil pass0 I (.cons rfl (.cons rv .nil)) q) (fun w s' ⟨z', H', I', rz, qz⟩ => SlX.cmpback rz ⟨z', H', I', rz, qz⟩) fun _ _ z => z
  cases v with
  | non =>
    cases (show uv = Value.none from rv)
    exact eq_back (T := "NoneType") room.units0 I.kIn J rfl nb.non PySem.F.slot_NoneType_eq (fun Q' q' => call_gives PySem.F.slot_NoneType_eq rfl PySem.F.entry_NoneType_eq (PySem.F.args_NoneType_eq_2 _ _) (NoneType___eq___none_ref_0 a) q') own isF called
  | bl b =>
    cases (show uv = Value.bool b from rv)
    exact eq_back (T := "bool") room.units0 I.kIn J rfl nb.bl PySem.F.slot_bool_eq (fun Q' q' => call_meets PySem.F.slot_bool_eq rfl PySem.F.entry_int_eq (PySem.F.args_int_eq_2 _ _) (dec_bool b a _ _ _) ⟨plain, q'⟩) own isF called
  | int i =>
    obtain ⟨t, e⟩ := (show ∃ t, uv = Value.int i t from rv)
    cases e
    exact eq_back (T := "int") room.units0 I.kIn J (typeIs_int s i t) nb.int PySem.F.slot_int_eq (fun Q' q' => call_meets PySem.F.slot_int_eq (typeIs_int s i t) PySem.F.entry_int_eq (PySem.F.args_int_eq_2 _ _) (dec_int i t a _ _ _) ⟨plain, q'⟩) own isF called
  | str z =>
    obtain ⟨t, e⟩ := (show ∃ t, uv = Value.str z t from rv)
    cases e
    exact eq_back (T := "str") room.units0 I.kIn J (typeIs_str s z t) nb.str PySem.F.slot_str_eq (fun Q' q' => call_meets PySem.F.slot_str_eq (typeIs_str s z t) PySem.F.entry_str_eq (PySem.F.args_str_eq_2 _ _) (dec_str z t a _ _ _) ⟨plain, q'⟩) own isF called
  | ref l =>
    cases (show uv = Value.ref l from rv)
    rcases kd with ⟨xs, h⟩ | ⟨xs, h⟩ | ⟨kvs, h⟩
    · obtain ⟨_, _, _, o, h1, h2, _⟩ := (show ObjOk X.prog X.w H s.heap l (.tup xs) from I.hok l _ h)
      exact eq_back (T := "tuple") room.units0 I.kIn J ⟨o, h1, h2⟩ nb.tup PySem.F.slot_tuple_eq (fun Q' q' => GQ.call_here PySem.F.slot_tuple_eq ⟨o, h1, h2⟩ PySem.F.entry_tuple_eq (PySem.F.args_tuple_eq_2 _ _) (dec_tuple I.kIn J nb.tup q')) own isF called
    · obtain ⟨_, _, n, _, h1⟩ := (show ObjOk X.prog X.w H s.heap l (.lst xs) from I.hok l _ h)
      exact eq_back (T := "list") room.units0 I.kIn J ⟨_, h1, rfl⟩ nb.lst PySem.F.slot_list_eq (fun Q' q' => GQ.call_here PySem.F.slot_list_eq ⟨_, h1, rfl⟩ PySem.F.entry_list_eq (PySem.F.args_list_eq_2 _ _) (dec_list I.kIn J nb.lst h1 q')) own isF called
    · obtain ⟨_, _, vs, _, o, es, ep, h1, h2, _⟩ := (show ObjOk X.prog X.w H s.heap l (.dK kvs) from I.hok l _ h)
      exact eq_back (T := "dict") room.units0 I.kIn J ⟨o, h1, h2.1⟩ nb.dct PySem.F.slot_dict_eq (fun Q' q' => GQ.call_here PySem.F.slot_dict_eq ⟨o, h1, h2.1⟩ PySem.F.entry_dict_eq (PySem.F.args_dict_eq_2 _ _) (dec_dict I.kIn J nb.dct q')) own isF called
  | flt _ => exact kd.elim
  | byt _ => exact kd.elim
  | ty _ => exact kd.elim
end
/-! ### repr of any value of a built-in kind -/
/-- the data of a value: as Dp says, or the empty dict -/
def RepData (K : PySem.W.Frag) (H : Hp) (v : V) (d : PyData) : Prop := (Dp K H v d ∧ d.hasDict = false) ∨ ∃ a, v = .ref a ∧ H a = some (.dK []) ∧ d = .dict []
theorem RepData.same {K : PySem.W.Frag} {H H' : Hp} {v : V} {d : PyData} (h : RepData K H v d) (k : Dp K H v d → Dp K H' v d) (s : Same H H') : RepData K H' v d := by
  rcases h with ⟨h, n⟩ | ⟨a, e, h, z⟩
  · exact .inl ⟨k h, n⟩
  · exact .inr ⟨a, e, s _ _ h, z⟩
structure rRepA (K : PySem.W.Frag) (vs : List V) (H : Hp) (Q : VK) : Prop where
  ex : ∃ (v : V) (d : PyData), vs = [v] ∧ RepData K H v d ∧ d.showable = true ∧ d.depth ≤ 60 ∧ d.shown.length ≤ sizeLine ∧ Q (.str d.shown) H
theorem call_repA {X : Cx} (clear : X.A.guards = some []) (room : X.A.units + 64 < cLine) : CallR X (.builtin "repr") (rRepA X.K) := by
  intro pins s σ H vs us Q I rvs hyp
  obtain ⟨v, d, rfl, data, hshow, hdeep, hfit, fin⟩ := hyp.ex
  obtain ⟨u, rfl, ru⟩ := vals1 rvs
  rcases data with ⟨dp, no⟩ | ⟨a, rfl, ha, rfl⟩
  · cases dp with
    | non =>
      cases (show u = Value.none from ru)
      rw [PyData.shown] at fin
      exact PySem.P.repr_of_none ⟨.str _, H, I.tok _, ⟨_, rfl⟩, fin⟩
    | bl b =>
      cases (show u = Value.bool b from ru)
      rw [PyData.shown] at fin
      exact PySem.P.repr_of_bool ⟨.str _, H, I.tok _, ⟨_, by cases b <;> rfl⟩, fin⟩
    | int i =>
      obtain ⟨t, e⟩ := (show ∃ t, u = Value.int i t from ru)
      cases e
      rw [PyData.shown] at fin
      rw [PyData.showable] at hshow
      exact PySem.P.repr_of_int (of_decide_eq_true hshow) ⟨.str _, H, I.tok _, ⟨_, rfl⟩, fin⟩
    | str z =>
      obtain ⟨t, e⟩ := (show ∃ t, u = Value.str z t from ru)
      cases e
      rw [PyData.shown] at fin hfit
      exact PySem.P.repr_of_str ⟨.str _, H, I.tok _, ⟨_, rfl⟩, fin⟩ hfit
    | @lst a xs ds hs hall => exact call_repD clear room pins s σ H [.ref a] [u] Q I (.cons ru .nil) ⟨⟨a, _, rfl, Dp.lst hs hall, hshow, no, hdeep, hfit, fin⟩⟩
    | @tup a xs ds hs hall => exact call_repD clear room pins s σ H [.ref a] [u] Q I (.cons ru .nil) ⟨⟨a, _, rfl, Dp.tup hs hall, hshow, no, hdeep, hfit, fin⟩⟩
  · cases (show u = Value.ref a from ru)
    obtain ⟨_, sys, vs', kv, o, es, ep, h1, h2, h3, _, pairs, _⟩ := (show ObjOk X.prog X.w H s.heap a (.dK []) from I.hok a _ ha)
    cases kv
    have none_ : es.toList = [] := by cases h : es.toList with
      | nil => rfl
      | cons e r => rw [h] at pairs; cases pairs
    have reads : Reads s.heap (.ref a) (.dict []) (a :: [] ++ []) := Reads.dict h1 h2.1 h3 (by rw [none_]; exact .nil) (by rw [none_]; exact .nil)
    refine repr_of_reads' reads hshow (fun _ => ?_) clear (by omega) (fun _ _ same => same) (fun heap' tok toks kept => ⟨.str _, H, I.kept kept, ⟨_, rfl⟩, fin⟩) hfit
    intro m
    simp at m
    rw [← m] at sys
    simp at sys
end Fz

set_option Elab.async false
set_option linter.all false
set_option maxRecDepth 100000
set_option maxHeartbeats 2000000
/-! Own layer, fourteenth part: where rules stand; errors of one field; what is heard of a rule asked at a heap. -/
namespace Fz
open PySem PySem.Spec PyProof.Rows L2
/-! ### errors of one field -/
def spErrI (C : Addr) (f : Str) : Sp := fun vs H Q _ => ∃ (a : Addr) (v : V), vs = [.ref a, v] ∧ H a = some (exo a C none) ∧ ∀ d, H d = none → d ≠ a → Q .non (upd (upd H d (exd d [(f, v)])) a (exo a C (some d)))
def BadE (C : Addr) (f : Str) (v : V) (E : XK) (H : Hp) : Prop := ∀ d, H d = none → E (.ref C) (some d) (upd H d (.xd [(f, v)]))
theorem bade_made {C : Addr} {f : Str} {v : V} {E : XK} {W : WX} {σ : L2.St} {i : Nat} {H : Hp} (at_ : σ[i]? = some (some v)) (h : BadE C f v E H) (hW : ∀ cls d H', E cls d H' → W cls d σ H') : tMkO C (spErrI C f) [] (tCons (tVar i) tNil) σ H (fun cls d H' => W cls d σ H') := by
  refine ⟨v, at_, (show 1 ≤ 1000 by decide), fun a ha => ⟨a, v, rfl, upd_same, fun d hd ne => ⟨rfl, d, _, upd_same, by rw [upd_ne ne, upd_same], by rw [upd_ne ne] at hd; exact hd, ?_⟩⟩⟩
  have hd0 : H d = none := by rw [upd_ne ne] at hd; exact hd
  have e : upd (del (upd (upd (upd H a (exo a C none)) d (exd d [(f, v)])) a (exo a C (some d))) a) d (.xd [(f, v)]) = upd H d (.xd [(f, v)]) := by
    funext b
    by_cases hb : b = d
    · subst hb
      rw [upd_same, upd_same]
    · rw [upd_ne hb, upd_ne hb]
      by_cases hba : b = a
      · subst hba
        rw [del_same, ha]
      · rw [del_ne hba, upd_ne hba, upd_ne hb, upd_ne hba]
  show W (.ref C) (some d) σ (upd (del (upd (upd (upd H a (exo a C none)) d (exd d [(f, v)])) a (exo a C (some d))) a) d (.xd [(f, v)]))
  rw [e]
  exact hW _ _ _ (h d hd0)
/-- an error class of one field -/
structure PrgF (K : PySem.W.Frag) (mg : Str → Option Value) (x f : Str) (C g : Addr) : Prop where
  g_ : mg x = some (.ref C)
  oB : OexC K C
  nF : PySem.W.findIn K (.ref C) f = some none
  iB : PySem.W.findIn K (.ref C) "__init__" = some (some (.ref g))
  tB : PySem.W.typeIn K (.ref g) = some (.type "function")
/-! ### values and heaps -/
def great : Int := 1000000000000000000000000000000
/-- a value of a built-in kind, or a rule -/
def AnyV (CF CD : Addr) (H : Hp) (v : V) : Prop := Kd H v ∨ ∃ x d, v = .ref x ∧ RuleAt CF CD H x d
theorem AnyV.same {CF CD : Addr} {H H' : Hp} {v : V} (h : AnyV CF CD H v) (s : Same H H') : AnyV CF CD H' v := h.imp (fun k => k.same s) fun ⟨x, d, e, r⟩ => ⟨x, d, e, r.same s⟩
theorem AnyV.ext {CF CD : Addr} {H H' : Hp} {v : V} (h : AnyV CF CD H v) (s : LamX.ExtN H H') : AnyV CF CD H' v := h.imp (fun k => k.ext s) fun ⟨x, d, e, r⟩ => ⟨x, d, e, r.ext s⟩
/-- neither class of rules is below int or bool -/
structure NoInt (K : PySem.W.Frag) (CF CD : Addr) : Prop where
  fi : PySem.W.kitOne K (.ref CF) (.type "int") = some false
  fb : PySem.W.kitOne K (.ref CF) (.type "bool") = some false
  di : PySem.W.kitOne K (.ref CD) (.type "int") = some false
  db : PySem.W.kitOne K (.ref CD) (.type "bool") = some false
def IntTy (K : PySem.W.Frag) (H : Hp) (x : V) : Prop := ∃ t, TyX K H x t ∧ PySem.W.kitOne K t (.type "int") = some (isIntV x) ∧ PySem.W.kitOne K t (.type "bool") = some (isBlV x)
theorem AnyV.int {K : PySem.W.Frag} {CF CD : Addr} {H : Hp} {v : V} (P : PrgQ K CF CD) (N : NoInt K CF CD) (h : AnyV CF CD H v) : IntTy K H v := by
  rcases h with k | ⟨x, d, rfl, dx, r⟩
  · exact k.isInt
  · cases d with
    | fixed _ _ _ _ => exact ⟨_, P.tyF.ty P.icF.cl r, N.fi, N.fb⟩
    | down _ _ _ => exact ⟨_, P.tyD.ty P.icD.cl r, N.di, N.db⟩
def spNumX (K : PySem.W.Frag) : Sp := fun vs H Q _ => ∃ (x : V) (lo hi : Int), vs = [x, .int lo, .int hi] ∧ IntTy K H x ∧ Q (.bl (numV lo hi x)) H
def standsB (d : RD) (n : Int) : Bool := decide (d.start ≤ n) && decide (n % d.mod = d.rest)
def leftI : RD → Int → Int
  | .fixed s _ _ _, n => n - s
  | .down t _ _, _ => t
def takenI : RD → Int → Int
  | .fixed s _ _ _, _ => s
  | .down t _ _, n => n - t
/-- what a rule answers: a refusal of the heap, of the take, or a value -/
inductive Out where
  | size (v : V)
  | take (v : V)
  | val (u : V)
def Out.Then (CZ CN : Addr) (E : XK) (Q : VK) (H : Hp) : Out → Prop
  | .size v => BadE CZ "value" v E H
  | .take v => BadE CN "number" v E H
  | .val u => Q u H
def outSize (v : V) : Out := if numV 0 great v = true then .val .non else .size v
def outStands (d : RD) (v : V) : Out := match v with
  | .int n => if numV 0 great v = true then .val (.bl (standsB d n)) else .size v
  | v => .size v
def outIf (f : Int → Int) (d : RD) (v : V) : Out := match v with
  | .int n => if numV 0 great v = true then (if standsB d n = true then .val (.int (f n)) else .take v) else .size v
  | v => .size v
def outCheck (d : RD) (v : V) : Out := match v with
  | .int n => if numV 0 great v = true then (if standsB d n = true then .val .non else .take v) else .size v
  | v => .size v
def outLeft (d : RD) : V → Out := outIf (leftI d) d
def outTaken (d : RD) : V → Out := outIf (takenI d) d
def spAt (CZ CN CF CD : Addr) (b : Bool) (g : RD → V → Out) : Sp := fun vs H Q E => ∃ (x : Addr) (d : RD) (v : V), vs = [.ref x, v] ∧ RuleAt CF CD H x d ∧ d.Wf ∧ d.isF = b ∧ AnyV CF CD H v ∧ (g d v).Then CZ CN E Q H
def spSize (CZ CN CF CD : Addr) : Sp := fun vs H Q E => ∃ v : V, vs = [v] ∧ AnyV CF CD H v ∧ (outSize v).Then CZ CN E Q H
def spStands (CF CD : Addr) : Sp := fun vs H Q _ => ∃ (x : Addr) (d : RD) (n : Int), vs = [.ref x, .int n] ∧ RuleAt CF CD H x d ∧ d.Wf ∧ Q (.bl (standsB d n)) H
def spCheck (CZ CN CF CD : Addr) : Sp := fun vs H Q E => ∃ (x : Addr) (d : RD) (v : V), vs = [.ref x, v] ∧ RuleAt CF CD H x d ∧ d.Wf ∧ AnyV CF CD H v ∧ (outCheck d v).Then CZ CN E Q H
def spLeftFrom (CF CD : Addr) : Sp := fun vs H Q _ => ∃ (x : Addr) (s r m l n : Int), vs = [.ref x, .int n] ∧ RuleAt CF CD H x (.fixed s r m l) ∧ Q (.int (n - s)) H
/-! ### what is heard -/
abbrev heardEx2 (CZ CN : Addr) (Q : VK) : XK := fun cls d H' => (cls = .ref CZ ∧ ∃ (dd : Addr) (v : V), d = some dd ∧ H' dd = some (.xd [("value", v)]) ∧ ∀ H'' t, Same H' H'' → H'' t = some (.tup [.str "size", v]) → Q (.ref t) H'') ∨
  (cls = .ref CN ∧ ∃ (dd : Addr) (v : V), d = some dd ∧ H' dd = some (.xd [("number", v)]) ∧ ∀ H'' t, Same H' H'' → H'' t = some (.tup [.str "take", v]) → Q (.ref t) H'')
def TTs (CZ CN : Addr) : (XK → Hp → VK → Prop) → Hp → VK → Prop := fun tl H Q => ∀ H1, Same H H1 → tl (heardEx2 CZ CN Q) H1 (heardNx Q)
def Out.Ans (H : Hp) (y : V) : Out → Prop
  | .size v => ∃ a, y = .ref a ∧ H a = some (.tup [.str "size", v])
  | .take v => ∃ a, y = .ref a ∧ H a = some (.tup [.str "take", v])
  | .val u => ∃ a, y = .ref a ∧ H a = some (.lst [u])
theorem Out.Ans.ext {H H' : Hp} {y : V} {o : Out} (h : o.Ans H y) (s : LamX.ExtN H H') : o.Ans H' y := by
  cases o with
  | size v => exact h.imp fun _ ⟨e, z⟩ => ⟨e, s _ _ z (fun _ z => nomatch z)⟩
  | take v => exact h.imp fun _ ⟨e, z⟩ => ⟨e, s _ _ z (fun _ z => nomatch z)⟩
  | val v => exact h.imp fun _ ⟨e, z⟩ => ⟨e, s _ _ z (fun _ z => nomatch z)⟩
theorem heard_out {CZ CN : Addr} {H : Hp} {Q : VK} (o : Out) (hQ : ∀ H' y, Same H H' → o.Ans H' y → Q y H') : o.Then CZ CN (heardEx2 CZ CN Q) (heardNx Q) H := by
  have kept : ∀ {d : Addr} {u : HO} {H'' : Hp}, H d = none → Same (upd H d u) H'' → Same H H'' := fun hd s b o e => s b o (by rw [upd_ne (ne_of_none e hd)]; exact e)
  cases o with
  | size v => exact fun d hd => .inl ⟨rfl, d, v, rfl, upd_same, fun H'' t s at_ => hQ H'' _ (kept hd s) ⟨t, rfl, at_⟩⟩
  | take v => exact fun d hd => .inr ⟨rfl, d, v, rfl, upd_same, fun H'' t s at_ => hQ H'' _ (kept hd s) ⟨t, rfl, at_⟩⟩
  | val u => exact fun H'' l s at_ => hQ H'' _ s ⟨l, rfl, at_⟩
end Fz

set_option Elab.async false
set_option linter.all false
set_option maxRecDepth 100000
set_option maxHeartbeats 2000000
/-! Own layer, fifteenth part: short data and its text; a rule's methods of one heap, of either class. -/
namespace Fz
open PySem PySem.Spec PyProof.Rows L2
/-! ### short data -/
structure Small (d : PyData) : Prop where
  sh : d.showable = true
  nd : d.hasDict = false
  dp : d.depth ≤ 5
  ln : d.shown.length ≤ 1000
theorem great_log {n : Int} (h0 : 0 ≤ n) (h1 : n ≤ great) : n.natAbs.log2 < 1920 := by
  by_cases e : n.natAbs = 0
  · rw [e]
    decide +kernel
  · exact (Nat.log2_lt e).mpr (Nat.lt_of_le_of_lt (show n.natAbs ≤ 1000000000000000000000000000000 by unfold great at h1; omega) (by decide +kernel))
theorem great_len {n : Int} (h0 : 0 ≤ n) (h1 : n ≤ great) : (toString n : Str).length ≤ 31 := toString_length_le h0 (by decide) (show n < 10 ^ 31 by unfold great at h1; omega)
theorem small_int {n : Int} (h0 : 0 ≤ n) (h1 : n ≤ great) : Small (.int n) where
  sh := by rw [PyData.showable]; exact decide_eq_true (great_log h0 h1)
  nd := by rw [PyData.hasDict]
  dp := by rw [PyData.depth]; omega
  ln := by
    rw [PyData.shown]
    exact Nat.le_trans (great_len h0 h1) (by decide)
theorem small_len {d : PyData} (h : d.leavesShort 100 = true) (b : d.bulk ≤ 8) : d.shown.length ≤ 1000 := by
  have z := PyData.shown_le_bulk 100 (by decide) d h
  have z2 : 102 * d.bulk ≤ 102 * 8 := Nat.mul_le_mul_left _ b
  omega
theorem short_int {n : Int} (h0 : 0 ≤ n) (h1 : n ≤ great) : PyData.leavesShort 100 (.int n) = true := by
  rw [PyData.leavesShort]
  refine decide_eq_true ?_
  rw [PyData.shown]
  exact Nat.le_trans (great_len h0 h1) (by decide)
theorem small_one {n : Int} (h0 : 0 ≤ n) (h1 : n ≤ great) : Small (.list [.int n]) where
  sh := by simp only [PyData.showable, PyData.showableAll, decide_eq_true (great_log h0 h1), Bool.and_self]
  nd := by simp only [PyData.hasDict, PyData.hasDictAll, Bool.or_self]
  dp := by simp only [PyData.depth, PyData.depthAll]; decide
  ln := small_len (by simp only [PyData.leavesShort, PyData.leavesShortAll]; have z := short_int h0 h1; rw [PyData.leavesShort] at z; rw [z]; rfl) (by simp only [PyData.bulk, PyData.bulkAll]; decide)
theorem small_take {n : Int} (h0 : 0 ≤ n) (h1 : n ≤ great) : Small (.tuple [.str "take", .int n]) where
  sh := by simp only [PyData.showable, PyData.showableAll, decide_eq_true (great_log h0 h1), Bool.and_self]
  nd := by simp only [PyData.hasDict, PyData.hasDictAll, Bool.or_self]
  dp := by simp only [PyData.depth, PyData.depthAll]; decide
  ln := small_len (by
    have z := short_int h0 h1
    have y : PyData.leavesShort 100 (.str "take") = true := by decide +kernel
    simp only [PyData.leavesShort] at z y
    simp only [PyData.leavesShort, PyData.leavesShortAll]
    rw [z, y]
    rfl) (by simp only [PyData.bulk, PyData.bulkAll]; decide +kernel)
theorem smalls {ds : List PyData} (h : ∀ d ∈ ds, Small d) : PyData.showableAll ds = true ∧ PyData.hasDictAll ds = false ∧ PyData.depthAll ds ≤ 6 ∧ ∀ t ∈ PyData.shownAll ds, t.length ≤ 1000 := by
  induction ds with
  | nil =>
    simp only [PyData.showableAll, PyData.hasDictAll, PyData.depthAll, PyData.shownAll]
    exact ⟨trivial, trivial, by omega, fun t ht => nomatch ht⟩
  | cons d ds ih =>
    obtain ⟨a, b, c, e⟩ := ih fun x hx => h x (List.mem_cons_of_mem _ hx)
    have k := h d List.mem_cons_self
    have k3 := k.dp
    simp only [PyData.showableAll, PyData.hasDictAll, PyData.depthAll, PyData.shownAll, a, b, k.sh, k.nd, Bool.and_self, Bool.or_self]
    refine ⟨trivial, trivial, by omega, fun t ht => ?_⟩
    rcases List.mem_cons.mp ht with rfl | ht
    · exact k.ln
    · exact e t ht
theorem shownAll_len : ∀ ds : List PyData, (PyData.shownAll ds).length = ds.length
  | [] => by simp only [PyData.shownAll, List.length_nil]
  | d :: ds => by
    have ih := shownAll_len ds
    simp only [PyData.shownAll, List.length_cons, ih]
theorem rep_small {K : PySem.W.Frag} {H : Hp} {Q : VK} {l : Addr} {xs : List V} {ds : List PyData} (hl : H l = some (.lst xs)) (dp : DpAll K H xs ds) (h : ∀ d ∈ ds, Small d) (few : ds.length ≤ 900) (fin : Q (.str (PyData.shown (.list ds))) H) : rRepD K [.ref l] H Q := by
  obtain ⟨a, b, c, e⟩ := smalls h
  refine ⟨⟨l, _, rfl, Dp.lst (SqL.of hl) dp, ?_, ?_, ?_, ?_, fin⟩⟩
  · rw [PyData.showable]
    exact a
  · rw [PyData.hasDict]
    exact b
  · rw [PyData.depth]
    omega
  · rw [PyData.shown]
    refine text_from (m := 1000) e ?_
    rw [shownAll_len]
    omega
/-! ### a method of one heap -/
section
variable {P : Program} {w : World} {K : PySem.W.Frag} {mg : Str → Option Value} {base : Heap}
structure AtM (P : Program) (w : World) (K : PySem.W.Frag) (mg : Str → Option Value) (base : Heap) (CZ CN CF CD C : Addr) (b : Bool) (m : Str) (k : Nat) (g : RD → V → Out) (f : Addr) (fd : FuncData) : Prop where
  M : Meth K C m f
  G : FnOk P w K mg base (L2.CX P w) k f fd ["self", "n"] (spAt CZ CN CF CD b g)
  B : L2.Binds K fd ["self", "n"] []
  BK : KBn K fd ["self", "n"] 1 ["n"] (fun us ws => us ++ ws) (fun vs zs => vs ++ zs)
end
def tAt (CZ CN CF CD : Addr) (m : Str) (g : RD → V → Out) (i j : Nat) (E : XK) : TE := tEither (tMeth CF m (spAt CZ CN CF CD true g) [] E (tVar i) (tCons (tVar j) tNil)) (tMeth CD m (spAt CZ CN CF CD false g) [] E (tVar i) (tCons (tVar j) tNil))
def tAtK (CZ CN CF CD : Addr) (m : Str) (g : RD → V → Out) (i j : Nat) (E : XK) : TE := tEither (tMethK CF m (["n"] : List Str).length (spAt CZ CN CF CD true g) (fun vs zs => vs ++ zs) E (tVar i) (tCons (tVar j) tNil)) (tMethK CD m (["n"] : List Str).length (spAt CZ CN CF CD false g) (fun vs zs => vs ++ zs) E (tVar i) (tCons (tVar j) tNil))
section
variable {CZ CN CF CD x : Addr} {m : Str} {g : RD → V → Out} {i j : Nat} {E : XK} {σ : L2.St} {H : Hp} {Q : VK} {d : RD} {v : V} {TL : List (Addr × Str)}
theorem at_ok (no : ∀ d : RD, d.fs.lookup m = none) (vi : σ[i]? = some (some (.ref x))) (vj : σ[j]? = some (some v)) (hx : RuleAt CF CD H x d) (wf : d.Wf) (any : AnyV CF CD H v) (fin : (g d v).Then CZ CN E Q H) : tAt CZ CN CF CD m g i j E σ H Q := by
  obtain ⟨dx, ax⟩ := id hx
  have n := no d
  cases d with
  | fixed z r m l => exact .inl ⟨_, vi, x, dx, _, rfl, ax, n, _, vj, x, _, v, rfl, hx, wf, rfl, any, fin⟩
  | down t r m => exact .inr ⟨_, vi, x, dx, _, rfl, ax, n, _, vj, x, _, v, rfl, hx, wf, rfl, any, fin⟩
theorem atK_ok (no : ∀ d : RD, d.fs.lookup m = none) (vi : σ[i]? = some (some (.ref x))) (vj : σ[j]? = some (some v)) (hx : RuleAt CF CD H x d) (wf : d.Wf) (any : AnyV CF CD H v) (fin : (g d v).Then CZ CN E Q H) : tAtK CZ CN CF CD m g i j E σ H Q := by
  obtain ⟨dx, ax⟩ := id hx
  have n := no d
  cases d with
  | fixed z r m l => exact .inl ⟨_, vi, x, dx, _, rfl, ax, n, _, vj, rfl, x, _, v, rfl, hx, wf, rfl, any, fin⟩
  | down t r m => exact .inr ⟨_, vi, x, dx, _, rfl, ax, n, _, vj, rfl, x, _, v, rfl, hx, wf, rfl, any, fin⟩
theorem heard_at (no : ∀ d : RD, d.fs.lookup m = none) (tabs : LamX.Tabs TL H) (vi : σ[i]? = some (some (.ref x))) (vj : σ[j]? = some (some v)) (hx : RuleAt CF CD H x d) (wf : d.Wf) (any : AnyV CF CD H v) (hQ : ∀ H' y, LamX.ExtN H H' → LamX.Tabs TL H' → (g d v).Ans H' y → Q y H') : Box (LamX.tLam TL (TTs CZ CN) (tAt CZ CN CF CD m g i j)) σ H Q := by
  refine ⟨tabs, fun H3 e3 tabs3 H4 s4 => ?_⟩
  have ext4 := extN_same e3 s4
  exact at_ok no vi vj (hx.ext ext4) wf (any.ext ext4) (heard_out _ fun H5 y s5 ans => hQ H5 y (extN_same ext4 s5) (tabs3.ext fun b o e => s5 b o (s4 b o e)) ans)
theorem heard_atK (no : ∀ d : RD, d.fs.lookup m = none) (tabs : LamX.Tabs TL H) (vi : σ[i]? = some (some (.ref x))) (vj : σ[j]? = some (some v)) (hx : RuleAt CF CD H x d) (wf : d.Wf) (any : AnyV CF CD H v) (hQ : ∀ H' y, LamX.ExtN H H' → LamX.Tabs TL H' → (g d v).Ans H' y → Q y H') : Box (LamX.tLam TL (TTs CZ CN) (tAtK CZ CN CF CD m g i j)) σ H Q := by
  refine ⟨tabs, fun H3 e3 tabs3 H4 s4 => ?_⟩
  have ext4 := extN_same e3 s4
  exact atK_ok no vi vj (hx.ext ext4) wf (any.ext ext4) (heard_out _ fun H5 y s5 ans => hQ H5 y (extN_same ext4 s5) (tabs3.ext fun b o e => s5 b o (s4 b o e)) ans)
end
theorem noStandsAt (d : RD) : d.fs.lookup ("stands_at" : Str) = none := by cases d <;> rfl
theorem noLeftAt (d : RD) : d.fs.lookup ("left_at" : Str) = none := by cases d <;> rfl
theorem noTakenAt (d : RD) : d.fs.lookup ("taken_at" : Str) = none := by cases d <;> rfl
/-! ### answers gathered in a list -/
def Out.dat : Out → PyData
  | .take (.int n) => .tuple [.str "take", .int n]
  | .val (.int k) => .list [.int k]
  | _ => .none
def Out.Num : Out → Prop
  | .take (.int n) => 0 ≤ n ∧ n ≤ great
  | .val (.int k) => 0 ≤ k ∧ k ≤ great
  | _ => False
theorem Out.Num.small {o : Out} (h : o.Num) : Small o.dat := by
  cases o with
  | size v => exact h.elim
  | take v => cases v <;> first | exact h.elim | exact small_take h.1 h.2
  | val v => cases v <;> first | exact h.elim | exact small_one h.1 h.2
theorem Out.Num.dp {o : Out} (h : o.Num) {K : PySem.W.Frag} {H : Hp} {y : V} (a : o.Ans H y) : Dp K H y o.dat := by
  cases o with
  | size v => exact h.elim
  | take v =>
    obtain ⟨a, rfl, z⟩ := a
    cases v <;> first | exact h.elim | exact Dp.tup (SqT.of z) (.cons (.str _) (.cons (.int _) .nil))
  | val v =>
    obtain ⟨a, rfl, z⟩ := a
    cases v <;> first | exact h.elim | exact Dp.lst (SqL.of z) (.cons (.int _) .nil)
theorem Out.Ans.ref {H : Hp} {y : V} {o : Out} (h : o.Ans H y) : ∃ a, y = .ref a := by
  cases o <;> exact h.imp fun _ z => z.1
theorem Out.Ans.put {H : Hp} {y : V} {o : Out} (h : o.Ans H y) (n : ∀ u, o = .val u → ∀ b, u ≠ .ref b) {t b : Addr} {xs : List V} {u : HO} (ht : H t = some (.lst (.ref b :: xs))) : o.Ans (upd H t u) y := by
  cases o with
  | size v => exact h.imp fun a ⟨e, z⟩ => ⟨e, by rw [upd_ne (fun q => by rw [q, ht] at z; cases z)]; exact z⟩
  | take v => exact h.imp fun a ⟨e, z⟩ => ⟨e, by rw [upd_ne (fun q => by rw [q, ht] at z; cases z)]; exact z⟩
  | val v => exact h.imp fun a ⟨e, z⟩ => ⟨e, by
      rw [upd_ne (fun q => by
        rw [q, ht] at z
        exact n v rfl b (List.cons.inj (HO.lst.inj (Option.some.inj z))).1.symm)]
      exact z⟩
def Out.Plain (o : Out) : Prop := ∀ u, o = .val u → ∀ b, u ≠ .ref b
theorem Out.Num.plain {o : Out} (h : o.Num) : o.Plain := fun u e b q => by
  rw [e, q] at h
  exact h
inductive AnsAll (H : Hp) : List V → List Out → Prop
  | nil : AnsAll H [] []
  | cons {y ys o os} : o.Ans H y → AnsAll H ys os → AnsAll H (y :: ys) (o :: os)
theorem AnsAll.ext {H H' : Hp} {ys : List V} {os : List Out} (h : AnsAll H ys os) (s : LamX.ExtN H H') : AnsAll H' ys os := by
  induction h with
  | nil => exact .nil
  | cons a _ ih => exact .cons (a.ext s) ih
theorem AnsAll.put {H : Hp} {ys : List V} {os : List Out} (h : AnsAll H ys os) (n : ∀ o ∈ os, ∀ u, o = .val u → ∀ b, u ≠ .ref b) {t b : Addr} {xs : List V} {u : HO} (ht : H t = some (.lst (.ref b :: xs))) : AnsAll (upd H t u) ys os := by
  induction h with
  | nil => exact .nil
  | cons a _ ih => exact .cons (a.put (n _ List.mem_cons_self) ht) (ih fun o ho => n o (List.mem_cons_of_mem _ ho))
theorem AnsAll.app {H : Hp} {ys : List V} {os : List Out} {y : V} {o : Out} (h : AnsAll H ys os) (a : o.Ans H y) : AnsAll H (ys ++ [y]) (os ++ [o]) := by
  induction h with
  | nil => exact .cons a .nil
  | cons b _ ih => exact .cons b ih
theorem AnsAll.len {H : Hp} {ys : List V} {os : List Out} (h : AnsAll H ys os) : ys.length = os.length := by
  induction h with
  | nil => rfl
  | cons _ _ ih => exact congrArg Nat.succ ih
theorem AnsAll.dp {K : PySem.W.Frag} {H : Hp} {ys : List V} {os : List Out} (h : AnsAll H ys os) (n : ∀ o ∈ os, o.Num) : DpAll K H ys (os.map Out.dat) := by
  induction h with
  | nil => exact .nil
  | cons a _ ih => exact .cons ((n _ List.mem_cons_self).dp a) (ih fun o ho => n o (List.mem_cons_of_mem _ ho))
theorem AnsAll.all {H : Hp} {ys : List V} {os : List Out} {o : Out} (h : AnsAll H ys os) (n : ∀ u ∈ os, u = o) {y : V} (hy : y ∈ ys) : o.Ans H y := by
  induction h with
  | nil => cases hy
  | cons a _ ih =>
    rcases List.mem_cons.mp hy with rfl | hy
    · rw [n _ List.mem_cons_self] at a
      exact a
    · exact ih (fun u hu => n u (List.mem_cons_of_mem _ hu)) hy
/-- a list of answers at td, made behind H0 -/
structure ToldAt (TL : List (Addr × Str)) (H0 : Hp) (td : Addr) (os : List Out) (H : Hp) : Prop where
  ext : LamX.ExtN H0 H
  tabs : LamX.Tabs TL H
  new : ∀ b o, H0 b = some o → (∀ ps, o ≠ .tbl ps) → b ≠ td
  ys : ∃ (a : Addr) (ys : List V), H td = some (.lst (.ref a :: ys)) ∧ AnsAll H (.ref a :: ys) os
theorem ToldAt.first {TL : List (Addr × Str)} {H0 H : Hp} {td : Addr} {o : Out} {y : V} (e : LamX.ExtN H0 H) (t : LamX.Tabs TL H) (a : o.Ans H y) (un : H td = none) : ToldAt TL H0 td [o] (upd H td (.lst [y])) := by
  obtain ⟨b, rfl⟩ := a.ref
  have s := Same.new (o := .lst [V.ref b]) un
  exact ⟨extN_same e s, t.ext s, fun c o h n => ne_of_none (e c o h n) un, b, [], upd_same, .cons (a.ext (.of s)) .nil⟩
theorem ToldAt.app {TL : List (Addr × Str)} {H0 H H' : Hp} {td : Addr} {os : List Out} {o : Out} {y : V} (h : ToldAt TL H0 td os H) (n : ∀ o ∈ os, o.Plain) (k : o.Plain) (e : LamX.ExtN H H') (t : LamX.Tabs TL H') (a : o.Ans H' y) :
    ∃ ys, H' td = some (.lst ys) ∧ ys.length = os.length ∧ ToldAt TL H0 td (os ++ [o]) (upd H' td (.lst (ys ++ [y]))) := by
  obtain ⟨b, ys, ht, all⟩ := h.ys
  have ht' := e _ _ ht (fun _ z => nomatch z)
  have all' := all.ext e
  refine ⟨_, ht', all'.len, fun c u hc nt => ?_, tabs_mv ht' Mv.here t, h.new, b, ys ++ [y], upd_same, ?_⟩
  · rw [upd_ne (h.new c u hc nt)]
    exact e _ _ (h.ext _ _ hc nt) nt
  · exact (all'.put n ht').app (a.put k ht')
/-! ### values that are no heaps -/
def OddV (x : Addr) (H : Hp) (v : V) : Prop := v = .non ∨ v = .bl true ∨ v = .bl false ∨ v = .int (-1) ∨ v = .int (10 ^ 30 + 1) ∨ v = .int (10 ^ 39) ∨ v = .str "1" ∨ (∃ a, v = .ref a ∧ H a = some (.tup [.int 1])) ∨ (∃ a, v = .ref a ∧ H a = some (.lst [.int 0])) ∨ (∃ a, v = .ref a ∧ H a = some (.dK [])) ∨ v = .ref x
section
variable {K : PySem.W.Frag} {CF CD x : Addr} {H H' : Hp} {v : V} {d : RD}
theorem OddV.ext (h : OddV x H v) (s : LamX.ExtN H H') : OddV x H' v := by
  rcases h with h | h | h | h | h | h | h | ⟨a, e, z⟩ | ⟨a, e, z⟩ | ⟨a, e, z⟩ | h
  · exact .inl h
  · exact .inr (.inl h)
  · exact .inr (.inr (.inl h))
  · exact .inr (.inr (.inr (.inl h)))
  · exact .inr (.inr (.inr (.inr (.inl h))))
  · exact .inr (.inr (.inr (.inr (.inr (.inl h)))))
  · exact .inr (.inr (.inr (.inr (.inr (.inr (.inl h))))))
  · exact .inr (.inr (.inr (.inr (.inr (.inr (.inr (.inl ⟨a, e, s _ _ z (fun _ z => nomatch z)⟩)))))))
  · exact .inr (.inr (.inr (.inr (.inr (.inr (.inr (.inr (.inl ⟨a, e, s _ _ z (fun _ z => nomatch z)⟩))))))))
  · exact .inr (.inr (.inr (.inr (.inr (.inr (.inr (.inr (.inr (.inl ⟨a, e, s _ _ z (fun _ z => nomatch z)⟩)))))))))
  · exact .inr (.inr (.inr (.inr (.inr (.inr (.inr (.inr (.inr (.inr h)))))))))
/-- it is the rule itself, or a value of a built-in kind with a short text -/
theorem OddV.how (h : OddV x H v) : v = .ref x ∨ (Kd H v ∧ ∃ dat, RepData K H v dat ∧ dat.showable = true ∧ dat.depth ≤ 60 ∧ dat.shown.length ≤ sizeLine) := by
  rcases h with rfl | rfl | rfl | rfl | rfl | rfl | rfl | ⟨a, rfl, z⟩ | ⟨a, rfl, z⟩ | ⟨a, rfl, z⟩ | rfl
  · exact .inr ⟨True.intro, .none, .inl ⟨.non, by decide +kernel⟩, by decide +kernel, by decide +kernel, by decide +kernel⟩
  · exact .inr ⟨True.intro, .bool true, .inl ⟨.bl _, by decide +kernel⟩, by decide +kernel, by decide +kernel, by decide +kernel⟩
  · exact .inr ⟨True.intro, .bool false, .inl ⟨.bl _, by decide +kernel⟩, by decide +kernel, by decide +kernel, by decide +kernel⟩
  · exact .inr ⟨True.intro, .int (-1), .inl ⟨.int _, by decide +kernel⟩, by decide +kernel, by decide +kernel, by decide +kernel⟩
  · exact .inr ⟨True.intro, .int (10 ^ 30 + 1), .inl ⟨.int _, by decide +kernel⟩, by decide +kernel, by decide +kernel, by decide +kernel⟩
  · exact .inr ⟨True.intro, .int (10 ^ 39), .inl ⟨.int _, by decide +kernel⟩, by decide +kernel, by decide +kernel, by decide +kernel⟩
  · exact .inr ⟨True.intro, .str "1", .inl ⟨.str _, by decide +kernel⟩, by decide +kernel, by decide +kernel, by decide +kernel⟩
  · exact .inr ⟨.inl ⟨_, z⟩, .tuple [.int 1], .inl ⟨Dp.tup (SqT.of z) (.cons (.int _) .nil), by decide +kernel⟩, by decide +kernel, by decide +kernel, by decide +kernel⟩
  · exact .inr ⟨.inr (.inl ⟨_, z⟩), .list [.int 0], .inl ⟨Dp.lst (SqL.of z) (.cons (.int _) .nil), by decide +kernel⟩, by decide +kernel, by decide +kernel, by decide +kernel⟩
  · exact .inr ⟨.inr (.inr ⟨_, z⟩), .dict [], .inr ⟨a, rfl, z, rfl⟩, by decide +kernel, by decide +kernel, by decide +kernel⟩
  · exact .inl rfl
theorem OddV.any (h : OddV x H v) (hx : RuleAt CF CD H x d) : AnyV CF CD H v := by
  rcases h with rfl | rfl | rfl | rfl | rfl | rfl | rfl | ⟨a, rfl, z⟩ | ⟨a, rfl, z⟩ | ⟨a, rfl, z⟩ | rfl
  · exact .inl True.intro
  · exact .inl True.intro
  · exact .inl True.intro
  · exact .inl True.intro
  · exact .inl True.intro
  · exact .inl True.intro
  · exact .inl True.intro
  · exact .inl (.inl ⟨_, z⟩)
  · exact .inl (.inr (.inl ⟨_, z⟩))
  · exact .inl (.inr (.inr ⟨_, z⟩))
  · exact .inr ⟨_, d, rfl, hx⟩
theorem OddV.out (h : OddV x H v) (d : RD) : outStands d v = .size v ∧ outLeft d v = .size v ∧ outTaken d v = .size v := by
  rcases h with rfl | rfl | rfl | rfl | rfl | rfl | rfl | ⟨a, rfl, z⟩ | ⟨a, rfl, z⟩ | ⟨a, rfl, z⟩ | rfl <;> exact ⟨rfl, rfl, rfl⟩
theorem eqb_other {Q : VK} (P : PrgQ K CF CD) (hx : RuleAt CF CD H x d) (kd : Kd H v) (fin : Q (.bl false) H) : rEither (rEqBack CF (spEqR K CF)) (rEqBack CD (spEqR K CD)) v (.ref x) H Q := by
  obtain ⟨dx, ax⟩ := hx
  obtain ⟨n, l, ty, e, no⟩ := OtherV.same (K := K) kd (fun _ _ z => z)
  cases d with
  | fixed s r m l => exact .inl ⟨x, dx, _, rfl, ax, kd, x, dx, _, _, _, rfl, ax, fs_rank (.fixed s r m l), .inr ⟨_, ty, kit_other P.icF.cl.hd P.tF e (no CF), fin⟩⟩
  | down t r m => exact .inr ⟨x, dx, _, rfl, ax, kd, x, dx, _, _, _, rfl, ax, fs_rank (.down t r m), .inr ⟨_, ty, kit_other P.icD.cl.hd P.tD e (no CD), fin⟩⟩
end
/-! ### a test that is a conditional expression -/
section
variable {X : Cx} {a b c : Expr} {tA tB tC : L2.TT} {pos : Pos}
def tIfT (tA tB tC : L2.TT) : L2.TT := fun σ H Q => tA σ H fun d H1 => if d = true then tB σ H1 Q else tC σ H1 Q
theorem pt_ifT (hc : PT X c tA) (ha : PT X a tB) (hb : PT X b tC) : PT X (.IfExp c a b pos) (tIfT tA tB tC) := by
  refine ⟨fun pins s σ H Q I h => isTrue_IfExp (wpAny_mono (hc.run pins s σ H _ I h) (fun d s1 z => ?_) fun _ _ z => z)⟩
  obtain ⟨H1, I1, q1⟩ := z
  cases d with
  | true => exact ha.run pins s1 σ H1 Q I1 q1
  | false => exact hb.run pins s1 σ H1 Q I1 q1
end
end Fz

set_option Elab.async false
set_option linter.all false
set_option maxRecDepth 100000
set_option maxHeartbeats 2000000
/-! Own layer: a classmethod called by keywords; texts and their parts; an error of two fields; what reading promises. -/
namespace Fz
open PySem PySem.Spec PyProof.Rows L2 TL
section
variable {X : Cx} {CX : CXT} {k : Nat} {C p g : Addr} {mc : Value} {fd : FuncData} {ps ks : List Str} {sp : Sp} {E : XK} {o : Expr} {kws : List Keyword} {m : Str} {pos apos : Pos} {ta : TE} {tk : TA} {gg : List Value → List Value → List Value} {gV : List V → List V → List V}
/-- C.m(k = v, ..), m a classmethod -/
def tCMethK (C : Addr) (n : Nat) (sp : Sp) (gV : List V → List V → List V) (E : XK) (ta : TE) (tk : TA) : TE := fun σ H Q => ta σ H fun x H1 => x = .ref C ∧ tk σ H1 fun zs H2 => zs.length = n ∧ sp (gV [.ref C] zs) H2 Q E
theorem pe_cmethK0 {pl : Sem Bool} (he : PE X o ta) (r : ClX.CRead X.K C mc) (c : ClX.CMet X.K C mc m p g) (F : FnOk X.prog X.w X.K X.mg X.base CX k g fd ps sp) (room : Room k X.A) (binds : KBn X.K fd ps 1 ks gg gV) (pass : Passes CX X E) (hkw : PK X kws tk)
    (named : (backToKw pos (keywordEach kws X.env)).all (·.1.isSome) = true := by rfl) (names : (backToKw pos (keywordEach kws X.env)).filterMap (·.1) = ks := by rfl)
    (plain : ((backTo pos (starEach [] X.env)).any (·.1) || (backToKw pos (keywordEach kws X.env)).any (·.1.isNone)) = false := by rfl)
    (tree : eval (.Call (.Attribute o m apos) [] kws pos) X.env = (do
      let ov ← eval o X.env
      standAt apos.atName
      let (f, first) ← holding [ov] (getMethod ov m pl)
      callWith pos f first (backTo pos (starEach [] X.env)) (backToKw pos (keywordEach kws X.env))) := by rfl) :
    PE X (.Call (.Attribute o m apos) [] kws pos) (tCMethK C ks.length sp gV E ta tk) := by
  refine ⟨fun pins s σ H Q I h => PySem.W.methodCall_KW (pl := pl) (thn (he.run pins s σ H _ I h) fun u s1 ⟨x, H1, I1, rx, ex, q⟩ => ?_) tree⟩
  subst ex
  obtain rfl : u = Value.ref C := rx
  refine ClX.getmethcm_ok I1 r c fun s2 I2 => ?_
  refine PySem.W.callWith_of (P := PySem.W.MethP X.K s1.heap.objs.size g (.ref C)) plain (PySem.W.keeps_M c.fi) (evalArgs_kw2_nil named ?_)
  refine thn (hkw.run pos _ s2 σ H1 _ I2 q) fun ws s3 ⟨zs, H2, I3, rz, len, q2⟩ => ⟨⟨ClX.pin_at I3, I3.kIn⟩, ?_⟩
  rw [names]
  have z : wpAny (model X.prog X.w) X.A (call (.ref s1.heap.objs.size) ([] ++ []) (ks.zip ws)) (EP X ((s1.heap.objs.size, PySem.W.methodObj (.ref g) (.ref C)) :: pins) σ Q) X.xe s3 := by
    refine wpAny_call (PySem.W.method_call (ClX.pin_at I3) ?_)
    refine codeAny_mono (F.run X.A X.stack s3 H2 ⟨[.ref C], ks.zip ws⟩ (gg [.ref C] ws) (gV [.ref C] zs) Q E room I3.env0 (binds.to s3 [.ref C] ws I3.kIn rfl (rz.length.symm.trans len)) (binds.rel (.cons rfl .nil) rz) q2) fun res s' got => ?_
    match res, got with
    | .error err, got => exact pass _ σ H2 s3 err s' I3 got
    | .ok (.ret u), got => exact I3.after got
    | .ok .next, got => exact got.elim
    | .ok .brk, got => exact got.elim
    | .ok .cont, got => exact got.elim
  exact thn z fun _ _ y => ClX.unpinE y
end
/-! ### texts and their parts -/
theorem spl_ne (S : List Nat) : ∀ (l acc : List Nat) (k : Nat), spl S k acc l ≠ []
  | [], acc, k => by rw [spl_nil]; simp
  | c :: r, acc, 0 => by
    show (if pre S (c :: r) = true then acc :: spl S (S.length - 1) [] r else spl S 0 (acc ++ [c]) r) ≠ []
    split
    · simp
    · exact spl_ne S r _ 0
  | c :: r, acc, k + 1 => spl_ne S r acc k
theorem split_ne (z : Str) : Txt.split z sp1 ≠ [] := fun e => by
  have q := split_spl z sp1 (by rw [tl_sp]; simp) (kind_ok sp_small)
  rw [e] at q
  exact spl_ne _ _ _ _ q.symm
theorem joinL_mem (S : List Nat) : ∀ (ps : List (List Nat)), (∀ p ∈ ps, p.length ≤ (joinL S ps).length ∧ ∀ c ∈ p, c ∈ joinL S ps)
  | [], p, h => by cases h
  | [q], p, h => by
    rw [List.mem_singleton.mp h]
    exact ⟨Nat.le_refl _, fun _ z => z⟩
  | q :: r :: t, p, h => by
    show p.length ≤ (q ++ (S ++ joinL S (r :: t))).length ∧ ∀ c ∈ p, c ∈ q ++ (S ++ joinL S (r :: t))
    rw [List.length_append, List.length_append]
    rcases List.mem_cons.mp h with rfl | h
    · exact ⟨by omega, fun c hc => List.mem_append_left _ hc⟩
    · obtain ⟨a, b⟩ := joinL_mem S (r :: t) p h
      exact ⟨by omega, fun c hc => List.mem_append_right _ (List.mem_append_right _ (b c hc))⟩
/-- a short text of plain signs -/
structure Plain (n : Nat) (z : Str) : Prop where
  len : z.length ≤ n
  asc : ∀ c ∈ tl z, c < 128
theorem Plain.ok {n : Nat} {z : Str} (h : Plain n z) : PySem.PyData.strOk z = true := by
  unfold PySem.PyData.strOk
  rw [← Array.all_toList, List.all_eq_true]
  intro c hc
  have q := h.asc c hc
  exact decide_eq_true (by omega)
theorem Plain.part {n : Nat} {z : Str} (h : Plain n z) {p : Str} (hp : p ∈ Txt.split z sp1) : Plain n p := by
  have j := StrLaws.join_split z sp1
  have e := tl_join sp1 (Txt.split z sp1)
  rw [j] at e
  obtain ⟨a, b⟩ := joinL_mem (tl sp1) ((Txt.split z sp1).map tl) (tl p) (List.mem_map_of_mem hp)
  rw [← e] at a b
  have l1 := len_tl p
  have l2 := len_tl z
  exact ⟨by have := h.len; omega, fun c hc => h.asc c (b c hc)⟩
theorem Plain.parts {n : Nat} {z : Str} (h : Plain n z) : (Txt.split z sp1).length ≤ n + 2 := by
  have a := PyProof.Rows.split_le z sp1
  have b := h.len
  omega
/-- words of a list: each short and plain, not too many -/
structure WsOk (ws : List Str) : Prop where
  each : ∀ z ∈ ws, Plain 5000 z
  few : ws.length ≤ 6000
theorem Plain.ws {z : Str} (h : Plain 5000 z) : WsOk (Txt.split z sp1) := ⟨fun _ hp => h.part hp, by have := h.parts; omega⟩
/-- what the joined words are -/
theorem joinL_len (S : List Nat) (m : Nat) : ∀ (ps : List (List Nat)), (∀ p ∈ ps, p.length ≤ m) → (joinL S ps).length ≤ ps.length * (m + S.length)
  | [], _ => by simp [joinL]
  | [q], h => by
    have a := h q (by simp)
    show q.length ≤ 1 * (m + S.length)
    omega
  | q :: r :: t, h => by
    have a := h q (by simp)
    have b := joinL_len S m (r :: t) fun p hp => h p (List.mem_cons_of_mem _ hp)
    show (q ++ (S ++ joinL S (r :: t))).length ≤ (t.length + 1 + 1) * (m + S.length)
    rw [List.length_append, List.length_append]
    rw [List.length_cons] at b
    rw [Nat.add_mul (t.length + 1) 1]
    omega
theorem joinL_in (S : List Nat) : ∀ (ps : List (List Nat)) (c : Nat), c ∈ joinL S ps → c ∈ S ∨ ∃ p ∈ ps, c ∈ p
  | [], c, h => by cases h
  | [q], c, h => .inr ⟨q, by simp, h⟩
  | q :: r :: t, c, h => by
    rcases List.mem_append.mp (show c ∈ q ++ (S ++ joinL S (r :: t)) from h) with h | h
    · exact .inr ⟨q, by simp, h⟩
    · rcases List.mem_append.mp h with h | h
      · exact .inl h
      · rcases joinL_in S (r :: t) c h with h | ⟨p, hp, h⟩
        · exact .inl h
        · exact .inr ⟨p, List.mem_cons_of_mem _ hp, h⟩
theorem plain_join {ws : List Str} {n m : Nat} (h : ∀ z ∈ ws, Plain n z) (few : ws.length ≤ m) : Plain (m * (n + 1)) (Str.join sp1 ws) := by
  have e := tl_join sp1 ws
  have l := len_tl (Str.join sp1 ws)
  rw [tl_sp] at e
  refine ⟨?_, fun c hc => ?_⟩
  · have a := joinL_len [32] n (ws.map tl) fun p hp => by
      obtain ⟨z, hz, rfl⟩ := List.mem_map.mp hp
      have l1 := len_tl z
      have l2 := (h z hz).len
      omega
    rw [← e, List.length_map] at a
    have b : ws.length * (n + [32].length) ≤ m * (n + 1) := Nat.mul_le_mul_right _ few
    omega
  · rw [e] at hc
    rcases joinL_in _ _ _ hc with hc | ⟨p, hp, hc⟩
    · rw [List.mem_singleton.mp hc]
      decide
    · obtain ⟨z, hz, rfl⟩ := List.mem_map.mp hp
      exact (h z hz).asc c hc
/-! ### words in a heap -/
def WordsAt (H : Hp) (p : Addr) (ws : List Str) : Prop := H p = some (.lst (ws.map V.str))
theorem WordsAt.same {H H' : Hp} {p : Addr} {ws : List Str} (h : WordsAt H p ws) (s : Same H H') : WordsAt H' p ws := s _ _ h
def optI : Option Int → V
  | some i => .int i
  | none => .non
def optN : Option Nat → V
  | some i => .int (i : Int)
  | none => .non
theorem at_str {ws : List Str} {i : Nat} {z : Str} (h : ws[i]? = some z) : atI (ws.map V.str) (i : Int) = some (.str z) := by
  have l : i < ws.length := by
    rcases Nat.lt_or_ge i ws.length with q | q
    · exact q
    · rw [List.getElem?_eq_none q] at h
      cases h
  unfold atI ixN
  rw [if_pos (by omega), if_pos (by rw [List.length_map]; omega)]
  show (ws.map V.str)[(i : Int).toNat]? = _
  rw [Int.toNat_natCast, List.getElem?_map, h]
  rfl
/-- x[a:b] of a list of words -/
theorem cut_strs (ws : List Str) (a b : Nat) : cutV (ws.map V.str) (some (a : Int)) (some (b : Int)) = ((ws.drop a).take (b - a)).map V.str := by
  unfold cutV
  rw [HT.sIx_nat, HT.sIx_nat, List.length_map, ← List.map_drop, ← List.map_take]
  congr 1
  rcases Nat.le_total a ws.length with h | h
  · rw [Nat.min_eq_left h]
    rcases Nat.le_total b ws.length with h2 | h2
    · rw [Nat.min_eq_left h2]
    · rw [Nat.min_eq_right h2, List.take_of_length_le (by rw [List.length_drop]; omega), List.take_of_length_le (by rw [List.length_drop]; omega)]
  · rw [Nat.min_eq_right h, List.drop_length, List.drop_eq_nil_of_le h]
    simp
theorem dp_strs {K : PySem.W.Frag} {H : Hp} : ∀ ws : List Str, DpAll K H (ws.map V.str) (ws.map PyData.str)
  | [] => .nil
  | z :: r => .cons (.str z) (dp_strs r)
theorem lay_strs : ∀ {ws : List Str}, (∀ z ∈ ws, PySem.PyData.strOk z = true) → PyData.canLayAll0 (ws.map PyData.str) = true
  | [], _ => rfl
  | z :: r, h => by
    show (PyData.canLay0 (.str z) && PyData.canLayAll0 (r.map PyData.str)) = true
    rw [lay_strs fun y hy => h y (List.mem_cons_of_mem _ hy), Bool.and_true]
    show PySem.PyData.strOk z = true
    exact h z (List.mem_cons_self ..)
theorem depth_strs : ∀ ws : List Str, PyData.depthAll (ws.map PyData.str) ≤ 1
  | [] => by decide
  | z :: r => by
    have q := depth_strs r
    show max (PyData.depth (.str z)) (PyData.depthAll (r.map PyData.str)) ≤ 1
    have e : PyData.depth (.str z) ≤ 1 := by simp [PyData.depth]
    omega
theorem shaped_strs {ws : List Str} (h : ∀ z ∈ ws, PySem.PyData.strOk z = true) : SeqAt.shaped (.list (ws.map PyData.str)) = true := by
  unfold SeqAt.shaped
  rw [show PyData.canLay0 (.list (ws.map PyData.str)) = PyData.canLayAll0 (ws.map PyData.str) from by simp [PyData.canLay0], lay_strs h, Bool.true_and]
  refine decide_eq_true ?_
  have q := depth_strs ws
  simp only [PyData.depth]
  omega
theorem eqv_strs : ∀ xs ys : List Str, PyData.eqvAll (xs.map PyData.str) (ys.map PyData.str) = decide (xs = ys)
  | [], [] => by simp [PyData.eqvAll]
  | [], y :: ys => by simp [PyData.eqvAll]
  | x :: xs, [] => by simp [PyData.eqvAll]
  | x :: xs, y :: ys => by
    show (PyData.eqv (.str x) (.str y) && PyData.eqvAll (xs.map PyData.str) (ys.map PyData.str)) = _
    rw [eqv_strs xs ys]
    by_cases h : x = y <;> simp [PyData.eqv, h]
/-- words[a:b] == [..] -/
theorem eq_words {K : PySem.W.Frag} {H : Hp} {Q : VK} {a b : Addr} {xs ys : List Str} (ha : H a = some (.lst (xs.map V.str))) (hb : H b = some (.lst (ys.map V.str))) (ox : ∀ z ∈ xs, PySem.PyData.strOk z = true) (oy : ∀ z ∈ ys, PySem.PyData.strOk z = true) (fin : Q (.bl (decide (xs = ys))) H) : rEqD K (.ref a) (.ref b) H Q := by
  refine ⟨.list (xs.map PyData.str), .list (ys.map PyData.str), Dp.lst (SqL.of ha) (dp_strs xs), Dp.lst (SqL.of hb) (dp_strs ys), shaped_strs ox, shaped_strs oy, ?_⟩
  rw [show PyData.eqv (.list (xs.map PyData.str)) (.list (ys.map PyData.str)) = PyData.eqvAll (xs.map PyData.str) (ys.map PyData.str) from by simp [PyData.eqv], eqv_strs]
  exact fin
theorem inV_strs (z : Str) (ws : List Str) : inV (.str z) (ws.map V.str) = decide (z ∈ ws) := by
  unfold inV
  induction ws with
  | nil => simp
  | cons y r ih =>
    rw [List.map_cons, List.any_cons, ih]
    have e : eqV (.str y) (.str z) = decide (z = y) := by
      by_cases h : z = y
      · subst h
        simp [eqV]
      · simp [eqV, h, Ne.symm h]
    rw [e]
    by_cases h : z = y <;> simp [h]
theorem flat_strs (ws : List Str) : (ws.map V.str).all flatV = true := by
  rw [List.all_map, List.all_eq_true]
  intro z _
  rfl
/-! ### slots in a heap -/
def SlotAt (H : Hp) (t : Addr) : WSlot → Prop
  | .one l => l ≠ [] ∧ H t = some (.tup (l.map V.str))
  | .num lo hi => 0 ≤ lo ∧ lo ≤ 400 ∧ 0 ≤ hi ∧ hi ≤ 400 ∧ H t = some (.tup [.int lo, .int hi])
theorem SlotAt.same {H H' : Hp} {t : Addr} {s : WSlot} (h : SlotAt H t s) (m : Same H H') : SlotAt H' t s := by
  cases s with
  | one l => exact ⟨h.1, m _ _ h.2⟩
  | num lo hi => exact ⟨h.1, h.2.1, h.2.2.1, h.2.2.2.1, m _ _ h.2.2.2.2⟩
inductive SlotsL (H : Hp) : List V → List WSlot → Prop
  | nil : SlotsL H [] []
  | cons {t : Addr} {s : WSlot} {xs : List V} {sl : List WSlot} : SlotAt H t s → SlotsL H xs sl → SlotsL H (.ref t :: xs) (s :: sl)
theorem SlotsL.same {H H' : Hp} {xs : List V} {sl : List WSlot} (h : SlotsL H xs sl) (m : Same H H') : SlotsL H' xs sl := by
  induction h with
  | nil => exact .nil
  | cons a _ ih => exact .cons (a.same m) ih
theorem SlotsL.len {H : Hp} {xs : List V} {sl : List WSlot} (h : SlotsL H xs sl) : xs.length = sl.length := by
  induction h with
  | nil => rfl
  | cons _ _ ih => rw [List.length_cons, List.length_cons, ih]
theorem SlotsL.app {H : Hp} {xs ys : List V} {sl tl : List WSlot} (h : SlotsL H xs sl) (g : SlotsL H ys tl) : SlotsL H (xs ++ ys) (sl ++ tl) := by
  induction h with
  | nil => exact g
  | cons a _ ih => exact .cons a ih
theorem SlotsL.at_ {H : Hp} {xs : List V} {sl : List WSlot} (h : SlotsL H xs sl) {i : Nat} {s : WSlot} (e : sl[i]? = some s) : ∃ t, xs[i]? = some (.ref t) ∧ SlotAt H t s := by
  induction h generalizing i with
  | nil => simp at e
  | cons a _ ih =>
    cases i with
    | zero =>
      cases e
      exact ⟨_, rfl, a⟩
    | succ i => exact ih (by simpa using e)
/-! ### an error of two fields -/
def spBadT (C : Addr) : Sp := fun vs H Q _ => ∃ (a : Addr) (x y : V), vs = [.ref a, x, y] ∧ H a = some (exo a C none) ∧ ∀ d, H d = none → d ≠ a → Q .non (upd (upd (upd H d (exd d [("line", x)])) a (exo a C (some d))) d (exd d [("word", y), ("line", x)]))
def BadT (C : Addr) (x y : V) (E : XK) (H : Hp) : Prop := ∀ d, H d = none → E (.ref C) (some d) (upd H d (.xd [("word", y), ("line", x)]))
theorem badt_made {C : Addr} {x y : V} {E : XK} {W : WX} {σ : L2.St} {H : Hp} {ta : TA} (args : ∀ Q : List V → Hp → Prop, Q [x, y] H → ta σ H Q) (h : BadT C x y E H) (hW : ∀ cls d H', E cls d H' → W cls d σ H') : tMkO C (spBadT C) [] ta σ H (fun cls d H' => W cls d σ H') := by
  refine args _ ⟨(show 2 ≤ 1000 by decide), fun a ha => ⟨a, x, y, rfl, upd_same, fun d hd ne => ⟨rfl, d, _, by rw [upd_ne (Ne.symm ne), upd_same], upd_same, by rw [upd_ne ne] at hd; exact hd, ?_⟩⟩⟩
  have hd0 : H d = none := by rw [upd_ne ne] at hd; exact hd
  have e : upd (del (upd (upd (upd (upd H a (exo a C none)) d (exd d [("line", x)])) a (exo a C (some d))) d (exd d [("word", y), ("line", x)])) a) d (.xd [("word", y), ("line", x)]) = upd H d (.xd [("word", y), ("line", x)]) := by
    funext b
    by_cases hb : b = d
    · subst hb
      rw [upd_same, upd_same]
    · rw [upd_ne hb, upd_ne hb]
      by_cases hba : b = a
      · subst hba
        rw [del_same, ha]
      · rw [del_ne hba, upd_ne hb, upd_ne hba, upd_ne hb, upd_ne hba]
  show W (.ref C) (some d) σ (upd (del (upd (upd (upd (upd H a (exo a C none)) d (exd d [("line", x)])) a (exo a C (some d))) d (exd d [("word", y), ("line", x)])) a) d (.xd [("word", y), ("line", x)]))
  rw [e]
  exact hW _ _ _ (h d hd0)
/-- an error class of two fields -/
structure PrgT (K : PySem.W.Frag) (mg : Str → Option Value) (C g : Addr) : Prop where
  g_ : mg "BadText" = some (.ref C)
  oB : OexC K C
  nL : PySem.W.findIn K (.ref C) "line" = some none
  nW : PySem.W.findIn K (.ref C) "word" = some none
  iB : PySem.W.findIn K (.ref C) "__init__" = some (some (.ref g))
  tB : PySem.W.typeIn K (.ref g) = some (.type "function")
/-! ### what reading promises -/
def spNumOf : Sp := fun vs H Q _ => ∃ (z : Str) (lo hi : Int), vs = [.str z, .int lo, .int hi] ∧ 0 ≤ lo ∧ lo ≤ 400 ∧ 0 ≤ hi ∧ hi ≤ 400 ∧ z.length ≤ 5000 ∧ Q (optI (numOf z lo hi)) H
def spLeastM : Sp := fun vs H Q _ => ∃ (p : Addr) (ws : List Str), vs = [.ref p] ∧ WordsAt H p ws ∧ WsOk ws ∧ Q (.int (leastM ws)) H
def spSlots : Sp := fun vs H Q _ => ∃ (p : Addr) (ws : List Str), vs = [.ref p] ∧ WordsAt H p ws ∧ ws ≠ [] ∧ WsOk ws ∧ ∀ H' l xs, Same H H' → H' l = some (.lst xs) → SlotsL H' xs (slotsW ws) → Q (.ref l) H'
def spFits : Sp := fun vs H Q _ => ∃ (z : Str) (t : Addr) (s : WSlot), vs = [.str z, .ref t] ∧ z.length ≤ 5000 ∧ SlotAt H t s ∧ Q (.bl (fitsB z s)) H
def spWrong : Sp := fun vs H Q _ => ∃ (p : Addr) (ws : List Str), vs = [.ref p] ∧ WordsAt H p ws ∧ ws ≠ [] ∧ WsOk ws ∧ ∀ H', Same H H' → Q (optN (wrongL ws)) H'
def spRuleOf (CF CD : Addr) : Sp := fun vs H Q _ => ∃ (p : Addr) (d : RD), vs = [.ref p] ∧ WordsAt H p (wordsOf d) ∧ d.Wf ∧ ∀ H' x, Same H H' → RuleAt CF CD H' x d → Q (.ref x) H'
/-- a value that is no text -/
def NoText (CF CD : Addr) (H : Hp) (v : V) : Prop := v = .non ∨ (∃ b, v = .bl b) ∨ (∃ i, v = .int i) ∨ (∃ a xs, v = .ref a ∧ H a = some (.lst xs)) ∨ (∃ a xs, v = .ref a ∧ H a = some (.tup xs)) ∨ (∃ a, v = .ref a ∧ H a = some (.dK [])) ∨ ∃ x d, v = .ref x ∧ RuleAt CF CD H x d
/-- what Rule.read does with the value v: the rule read is data -/
def ReadV (CT CF CD : Addr) (H : Hp) (Q : VK) (E : XK) (v : V) : Prop :=
  (NoText CF CD H v ∧ ∀ H', Same H H' → BadT CT (.int 0) (.int 0) E H') ∨
  ∃ z, v = .str z ∧ Plain 5000 z ∧ (∀ k : Nat, wrongL (Txt.split z sp1) = some k → ∀ H', Same H H' → BadT CT (.int 0) (.int k) E H') ∧
    ∀ d : RD, d.Wf → z = d.text → wrongL (Txt.split z sp1) = none → ∀ H' x, Same H H' → RuleAt CF CD H' x d → Q (.ref x) H'
def spRead (CT CF CD : Addr) : Sp := fun vs H Q E => ∃ (C : Addr) (v : V), vs = [.ref C, v] ∧ ReadV CT CF CD H Q E v
end Fz

set_option Elab.async false
set_option linter.all false
set_option maxRecDepth 100000
set_option maxHeartbeats 2000000
/-! Own layer: rows of worths that come again, their least form (pure). -/
namespace Fz
open PySem PySem.Spec PyProof.Rows L2
/-- the worth of the heap h: a ahead, n that come again -/
def atW (row : List Int) (a n h : Nat) : Int := row.getD (if h < a then h else a + (h - a) % n) 0
structure Told (row : List Int) (a n : Nat) : Prop where
  len : row.length = a + n
  n1 : 1 ≤ n
  fit : ∀ x ∈ row, 0 ≤ x ∧ x ≤ 400
theorem atW_low {row : List Int} {a n h : Nat} (l : h < a + n) : atW row a n h = row.getD h 0 := by
  unfold atW
  by_cases c : h < a
  · rw [if_pos c]
  · rw [if_neg c, Nat.mod_eq_of_lt (by omega)]
    congr 1
    omega
theorem atW_high {row : List Int} {a n h : Nat} (l : a ≤ h) : atW row a n h = row.getD (a + (h - a) % n) 0 := by
  unfold atW
  rw [if_neg (by omega)]
theorem atW_per {row : List Int} {a n i : Nat} (l : a ≤ i) (k : Nat) : atW row a n (i + n * k) = atW row a n i := by
  rw [atW_high l, atW_high (by omega), show i + n * k - a = (i - a) + n * k by omega, Nat.add_mul_mod_self_left]
theorem atW_per1 {row : List Int} {a n i : Nat} (l : a ≤ i) : atW row a n (i + n) = atW row a n i := by
  have q := atW_per (row := row) (n := n) l 1
  rw [Nat.mul_one] at q
  exact q
/-- the least form of a row that goes on without end -/
structure Form (W : Nat → Int) (b p : Nat) : Prop where
  p1 : 1 ≤ p
  per : ∀ i, b ≤ i → W (i + p) = W i
  min : ∀ s c, 1 ≤ s → (∀ i, c ≤ i → W (i + s) = W i) → p ≤ s
  low : b = 0 ∨ W (b - 1 + p) ≠ W (b - 1)
theorem Form.uniq {W : Nat → Int} {b p b' p' : Nat} (f : Form W b p) (g : Form W b' p') : b = b' ∧ p = p' := by
  have e : p = p' := Nat.le_antisymm (f.min p' b' g.p1 g.per) (g.min p b f.p1 f.per)
  subst e
  refine ⟨?_, rfl⟩
  rcases Nat.lt_trichotomy b b' with h | h | h
  · rcases g.low with z | z
    · omega
    · exact absurd (f.per (b' - 1) (by omega)) z
  · exact h
  · rcases f.low with z | z
    · omega
    · exact absurd (g.per (b - 1) (by omega)) z
/-- of what comes again from some heap on, all from a on comes again so -/
theorem good_of {row : List Int} {a n s c : Nat} (n1 : 1 ≤ n) (h : ∀ i, c ≤ i → atW row a n (i + s) = atW row a n i) : ∀ i, a ≤ i → atW row a n (i + s) = atW row a n i := fun i hi => by
  have e1 := atW_per (row := row) (n := n) hi c
  have e2 := atW_per (row := row) (n := n) (show a ≤ i + s by omega) c
  have m : c ≤ n * c := Nat.le_mul_of_pos_left c n1
  have e3 := h (i + n * c) (by omega)
  rw [show i + n * c + s = i + s + n * c by omega, e2, e1] at e3
  exact e3
/-! ### the period that is found by repeating -/
def Rep (r : List Int) (p : Nat) : Prop := (List.replicate (r.length / p) (r.take p)).flatten = r
theorem rep_get (l : List Int) : ∀ (k i : Nat), i < k * l.length → (List.replicate k l).flatten.getD i 0 = l.getD (i % l.length) 0
  | 0, i, h => by simp at h
  | k + 1, i, h => by
    rw [List.replicate_succ, List.flatten_cons]
    by_cases c : i < l.length
    · rw [Nat.mod_eq_of_lt c, List.getD_eq_getElem?_getD, List.getElem?_append_left c, ← List.getD_eq_getElem?_getD]
    · have c2 : l.length ≤ i := by omega
      rw [List.getD_eq_getElem?_getD, List.getElem?_append_right c2, ← List.getD_eq_getElem?_getD, rep_get l k (i - l.length) (by rw [Nat.add_mul] at h; omega)]
      congr 1
      exact (Nat.mod_eq_sub_mod c2).symm
theorem flat_len (l : List Int) : ∀ k : Nat, (List.replicate k l).flatten.length = k * l.length
  | 0 => by simp
  | k + 1 => by
    rw [List.replicate_succ, List.flatten_cons, List.length_append, flat_len l k, Nat.add_mul]
    omega
theorem ext_getD {xs ys : List Int} (l : xs.length = ys.length) (h : ∀ i, i < xs.length → xs.getD i 0 = ys.getD i 0) : xs = ys := by
  refine List.ext_getElem l fun i h1 h2 => ?_
  have q := h i h1
  rw [List.getD_eq_getElem?_getD, List.getD_eq_getElem?_getD, List.getElem?_eq_getElem h1, List.getElem?_eq_getElem h2] at q
  exact q
theorem rep_iff {r : List Int} {p : Nat} (p1 : 1 ≤ p) (p2 : p ≤ r.length) : Rep r p ↔ p ∣ r.length ∧ ∀ i, i < r.length → r.getD i 0 = r.getD (i % p) 0 := by
  have tl : (r.take p).length = p := by rw [List.length_take]; omega
  have fl := flat_len (r.take p) (r.length / p)
  rw [tl] at fl
  have get : ∀ i, i < r.length / p * p → (List.replicate (r.length / p) (r.take p)).flatten.getD i 0 = r.getD (i % p) 0 := fun i hi => by
    rw [rep_get _ _ _ (by rw [tl]; exact hi), tl, List.getD_eq_getElem?_getD, List.getElem?_take_of_lt (Nat.mod_lt _ (by omega)), ← List.getD_eq_getElem?_getD]
  constructor
  · intro h
    have e : r.length / p * p = r.length := by rw [← fl, h]
    refine ⟨Nat.dvd_of_mul_dvd_mul_right (k := 1) (by decide) (by rw [Nat.mul_one, Nat.mul_one]; exact ⟨r.length / p, by rw [Nat.mul_comm, e]⟩), fun i hi => ?_⟩
    have q := get i (by omega)
    rw [h] at q
    exact q
  · rintro ⟨d, h⟩
    have e : r.length / p * p = r.length := Nat.div_mul_cancel d
    exact ext_getD (by rw [fl, e]) fun i hi => by
      rw [fl] at hi
      rw [get i hi, ← h i (by omega)]
theorem rep_self {r : List Int} (h : 1 ≤ r.length) : Rep r r.length := (rep_iff h (Nat.le_refl _)).mpr ⟨Nat.dvd_refl _, fun i hi => by rw [Nat.mod_eq_of_lt hi]⟩
/-- what the program finds -/
structure LeastRep (r : List Int) (p : Nat) : Prop where
  p1 : 1 ≤ p
  p2 : p ≤ r.length
  rep : Rep r p
  min : ∀ q, 1 ≤ q → q < p → ¬ Rep r q
structure Back (row : List Int) (a p b : Nat) : Prop where
  le : b ≤ a
  same : ∀ i, b ≤ i → i < a → row.getD i 0 = row.getD (i + p) 0
  low : b = 0 ∨ row.getD (b - 1) 0 ≠ row.getD (b - 1 + p) 0
section
variable {row : List Int} {a n p b : Nat}
theorem drop_get (row : List Int) (a i : Nat) : (row.drop a).getD i 0 = row.getD (a + i) 0 := by
  rw [List.getD_eq_getElem?_getD, List.getElem?_drop, ← List.getD_eq_getElem?_getD]
theorem prog_form (t : Told row a n) (l : LeastRep (row.drop a) p) (k : Back row a p b) : Form (atW row a n) b p := by
  have ln : (row.drop a).length = n := by rw [List.length_drop, t.len]; omega
  have n1 := t.n1
  have p2 := l.p2
  rw [ln] at p2
  have p1 := l.p1
  obtain ⟨d, per⟩ := (rep_iff l.p1 l.p2).mp l.rep
  rw [ln] at d per
  have high : ∀ i, a ≤ i → atW row a n (i + p) = atW row a n i := fun i hi => by
    have e : ∀ j, a ≤ j → atW row a n j = row.getD (a + (j - a) % p) 0 := fun j hj => by
      have m := Nat.mod_lt (j - a) (show n > 0 by omega)
      have q := per ((j - a) % n) m
      rw [drop_get, drop_get, Nat.mod_mod_of_dvd _ d] at q
      rw [atW_high hj, q]
    rw [e i hi, e (i + p) (by omega), show i + p - a = (i - a) + p by omega, Nat.add_mod_right]
  refine ⟨p1, fun i hi => ?_, fun s c s1 h => ?_, ?_⟩
  · by_cases c : a ≤ i
    · exact high i c
    · have q := k.same i hi (by omega)
      rw [atW_low (by omega), atW_low (by omega), q]
  · have good := good_of n1 h
    clear h
    induction s using Nat.strongRecOn with
    | _ s ih =>
      by_cases big : n < s
      · omega
      · have many : ∀ (q i : Nat), a ≤ i → atW row a n (i + s * q) = atW row a n i := fun q => by
          induction q with
          | zero => intro i _; rw [Nat.mul_zero, Nat.add_zero]
          | succ q ih2 =>
            intro i hi
            rw [Nat.mul_succ, ← Nat.add_assoc, good (i + s * q) (by omega), ih2 i hi]
        by_cases z : n % s = 0
        · refine Nat.le_of_not_lt fun lt => l.min s s1 lt ((rep_iff s1 (by rw [ln]; omega)).mpr ⟨by rw [ln]; exact Nat.dvd_of_mod_eq_zero z, fun i hi => ?_⟩)
          rw [ln] at hi
          rw [drop_get, drop_get]
          have e := Nat.div_add_mod i s
          have q := many (i / s) (a + i % s) (by omega)
          have le := Nat.mod_le i s
          rw [show a + i % s + s * (i / s) = a + i by omega, atW_low (by omega), atW_low (by omega)] at q
          exact q
        · have r := Nat.mod_lt n (show s > 0 by omega)
          have w := ih (n % s) r (by omega) fun i hi => by
            have e := Nat.div_add_mod n s
            have q := many (n / s) (i + n % s) (by omega)
            rw [show i + n % s + s * (n / s) = i + n by omega, atW_per1 hi] at q
            exact q.symm
          omega
  · rcases k.low with z | z
    · exact .inl z
    · by_cases z0 : b = 0
      · exact .inl z0
      have le := k.le
      refine .inr fun e => z ?_
      rw [atW_low (by omega), atW_low (by omega)] at e
      exact e.symm
/-- what the law finds -/
structure LawForm (W : Nat → Int) (a n start size : Nat) : Prop where
  s1 : 1 ≤ size
  s2 : size ≤ n
  le : start ≤ a
  same : ∀ i, start ≤ i → i + size < a + 3 * n → W i = W (i + size)
  low : start = 0 ∨ W (start - 1) ≠ W (start - 1 + size)
  min : ∀ s, 1 ≤ s → s < size → ∃ i, a ≤ i ∧ i + s < a + 3 * n ∧ W i ≠ W (i + s)
theorem law_form (t : Told row a n) {start size : Nat} (l : LawForm (atW row a n) a n start size) : Form (atW row a n) start size := by
  have n1 := t.n1
  have s2 := l.s2
  refine ⟨l.s1, fun i hi => ?_, fun s c s1 h => ?_, ?_⟩
  · by_cases c : i + size < a + 3 * n
    · exact (l.same i hi c).symm
    · have ai : a ≤ i := by omega
      have m := Nat.mod_lt (i - a) (show n > 0 by omega)
      have e := Nat.div_add_mod (i - a) n
      have q := l.same (a + (i - a) % n) (by have := l.le; omega) (by omega)
      have w1 := atW_per (row := row) (n := n) (show a ≤ a + (i - a) % n by omega) ((i - a) / n)
      have w2 := atW_per (row := row) (n := n) (show a ≤ a + (i - a) % n + size by omega) ((i - a) / n)
      rw [show a + (i - a) % n + n * ((i - a) / n) = i by omega] at w1
      rw [show a + (i - a) % n + size + n * ((i - a) / n) = i + size by omega] at w2
      rw [w1, w2]
      exact q.symm
  · refine Nat.le_of_not_lt fun lt => ?_
    obtain ⟨i, hi, _, ne⟩ := l.min s s1 lt
    exact ne (good_of n1 h i hi).symm
  · rcases l.low with z | z
    · exact .inl z
    · exact .inr fun e => z e.symm
def nums (W : Nat → Int) (k : Nat) : List Int := (List.range k).map W
theorem nums_len (W : Nat → Int) (k : Nat) : (nums W k).length = k := by unfold nums; rw [List.length_map, List.length_range]
theorem nums_succ (W : Nat → Int) (k : Nat) : nums W (k + 1) = nums W k ++ [W k] := by
  unfold nums
  rw [List.range_succ, List.map_append]
  rfl
theorem nums_get {W : Nat → Int} {k i : Nat} (h : i < k) : (nums W k).getD i 0 = W i := by
  unfold nums
  rw [List.getD_eq_getElem?_getD, List.getElem?_map, List.getElem?_range h]
  rfl
theorem take_nums (t : Told row a n) {k : Nat} (h : k ≤ a + n) : row.take k = nums (atW row a n) k := by
  refine ext_getD (by rw [List.length_take, t.len, nums_len]; omega) fun i hi => ?_
  rw [List.length_take, t.len] at hi
  rw [nums_get (by omega), atW_low (by omega), List.getD_eq_getElem?_getD, List.getElem?_take_of_lt (by omega), ← List.getD_eq_getElem?_getD]
theorem nums_take {W : Nat → Int} {k m : Nat} (h : k ≤ m) : (nums W m).take k = nums W k := by
  unfold nums
  rw [← List.map_take, List.take_range, Nat.min_eq_left h]
/-- told in longer form: the same row -/
theorem longer_told (t : Told row a n) (m k : Nat) (k1 : 1 ≤ k) : Told (nums (atW row a n) (a + m + n * k)) (a + m) (n * k) := by
  have n1 := t.n1
  refine ⟨nums_len _ _, Nat.le_trans n1 (Nat.le_mul_of_pos_right n k1), fun x hx => ?_⟩
  unfold nums at hx
  obtain ⟨i, _, rfl⟩ := List.mem_map.mp hx
  have bound : ∀ j, j < a + n → 0 ≤ row.getD j 0 ∧ row.getD j 0 ≤ 400 := fun j hj => by
    rw [List.getD_eq_getElem?_getD, List.getElem?_eq_getElem (by rw [t.len]; exact hj)]
    exact t.fit _ (List.getElem_mem _)
  unfold atW
  split
  · exact bound i (by omega)
  · have q := Nat.mod_lt (i - a) (show n > 0 by omega)
    exact bound _ (by omega)
theorem longer_at (t : Told row a n) (m k : Nat) (k1 : 1 ≤ k) (h : Nat) : atW (nums (atW row a n) (a + m + n * k)) (a + m) (n * k) h = atW row a n h := by
  have n1 := t.n1
  have nk : n ≤ n * k := Nat.le_mul_of_pos_right n k1
  by_cases c : h < a + m + n * k
  · rw [atW_low c, nums_get c]
  · have c1 : a + m ≤ h := by omega
    have q := Nat.mod_lt (h - (a + m)) (show n * k > 0 by omega)
    rw [atW_high c1, nums_get (by omega)]
    have e := Nat.div_add_mod (h - (a + m)) (n * k)
    have w := atW_per (row := row) (n := n) (show a ≤ a + m + (h - (a + m)) % (n * k) by omega) (k * ((h - (a + m)) / (n * k)))
    rw [← Nat.mul_assoc, show a + m + (h - (a + m)) % (n * k) + n * k * ((h - (a + m)) / (n * k)) = h by omega] at w
    exact w.symm
end
end Fz

set_option Elab.async false
set_option linter.all false
set_option maxRecDepth 100000
set_option maxHeartbeats 2000000
/-! Own layer: tables of worths as objects; walks over a list or a tuple; tests that may be asked for less. -/
namespace Fz
open PySem PySem.Spec PyProof.Rows L2
section
variable {X : Cx} {tg e : Expr} {te : TE}
/-- a test may be asked for less -/
def tWeakT (t : L2.TT) : L2.TT := fun σ H Q => ∃ Q' : Bool → Hp → Prop, t σ H Q' ∧ ∀ b H', Q' b H' → Q b H'
theorem pt_weak {t : L2.TT} (h : PT X e t) : PT X e (tWeakT t) := ⟨fun pins s σ H Q I ⟨Q', h', w⟩ => thn (h.run pins s σ H Q' I h') fun b s1 ⟨H1, I1, q⟩ => ⟨H1, I1, w _ _ q⟩⟩
theorem weakT_mono {t : L2.TT} : ∀ (σ : L2.St) (H : Hp) (Q Q' : Bool → Hp → Prop), (∀ b H1, Q b H1 → Q' b H1) → tWeakT t σ H Q → tWeakT t σ H Q' := fun σ H Q Q' h ⟨q, a, b⟩ => ⟨q, a, fun c H1 z => h _ _ (b c H1 z)⟩
theorem weakT_of {t : L2.TT} {σ : L2.St} {H : Hp} {Q : Bool → Hp → Prop} (h : t σ H Q) : tWeakT t σ H Q := ⟨Q, h, fun _ _ z => z⟩
theorem at_nat' {xs : List V} {i : Nat} {v : V} (h : xs[i]? = some v) : atI xs (i : Int) = some v := by
  have l : i < xs.length := by
    rcases Nat.lt_or_ge i xs.length with q | q
    · exact q
    · rw [List.getElem?_eq_none q] at h
      cases h
  unfold atI ixN
  rw [if_pos (by omega), if_pos (by omega)]
  show xs[(i : Int).toNat]? = _
  rw [Int.toNat_natCast, h]
theorem at_last {ys : List V} {b : V} : atI (ys ++ [b]) (-1) = some b := by
  have l : (ys ++ [b]).length = ys.length + 1 := by rw [List.length_append] <;> rfl
  unfold atI ixN
  rw [if_neg (by decide), if_pos (by omega), l]
  show (ys ++ [b])[((-1 : Int) + ((ys.length + 1 : Nat) : Int)).toNat]? = _
  rw [show ((-1 : Int) + ((ys.length + 1 : Nat) : Int)).toNat = ys.length by omega, List.getElem?_append_right (by omega), show ys.length - ys.length = 0 by omega]
  rfl
theorem cutV_take (xs : List V) (k : Nat) : cutV xs none (some (k : Int)) = xs.take k := by
  unfold cutV
  rw [HT.sIx_nat, HT.sIx_none, List.drop_zero, Nat.sub_zero]
  rcases Nat.le_total k xs.length with h | h
  · rw [Nat.min_eq_left h]
  · rw [Nat.min_eq_right h, List.take_length, List.take_of_length_le h]
theorem cutV_drop (xs : List V) (k : Nat) : cutV xs (some (k : Int)) none = xs.drop k := by
  unfold cutV
  rw [HT.sIx_nat, HT.sIx_none]
  rcases Nat.le_total k xs.length with h | h
  · rw [Nat.min_eq_left h, List.take_of_length_le (by rw [List.length_drop]; omega)]
  · rw [Nat.min_eq_right h, List.drop_length, List.drop_eq_nil_of_le h]
    simp
theorem eqv_ints : ∀ xs ys : List Int, PyData.eqvAll (xs.map PyData.int) (ys.map PyData.int) = decide (xs = ys)
  | [], [] => by simp [PyData.eqvAll]
  | [], y :: ys => by simp [PyData.eqvAll]
  | x :: xs, [] => by simp [PyData.eqvAll]
  | x :: xs, y :: ys => by
    show (PyData.eqv (.int x) (.int y) && PyData.eqvAll (xs.map PyData.int) (ys.map PyData.int)) = _
    rw [eqv_ints xs ys]
    by_cases h : x = y <;> simp [PyData.eqv, h]
theorem eqv_lists (xs ys : List Int) : PyData.eqv (.list (xs.map PyData.int)) (.list (ys.map PyData.int)) = decide (xs = ys) := by
  rw [show PyData.eqv (.list (xs.map PyData.int)) (.list (ys.map PyData.int)) = PyData.eqvAll (xs.map PyData.int) (ys.map PyData.int) from by simp [PyData.eqv], eqv_ints]
theorem eqv_tups (xs ys : List Int) : PyData.eqv (.tuple (xs.map PyData.int)) (.tuple (ys.map PyData.int)) = decide (xs = ys) := by
  rw [show PyData.eqv (.tuple (xs.map PyData.int)) (.tuple (ys.map PyData.int)) = PyData.eqvAll (xs.map PyData.int) (ys.map PyData.int) from by simp [PyData.eqv], eqv_ints]
theorem shaped_tints (ns : List Int) : SeqAt.shaped (.tuple (ns.map PyData.int)) = true := by
  have q := depth_ints ns
  unfold SeqAt.shaped
  rw [show PyData.canLay0 (.tuple (ns.map PyData.int)) = PyData.canLayAll0 (ns.map PyData.int) from by simp [PyData.canLay0], lay_ints, Bool.true_and]
  refine decide_eq_true ?_
  simp only [PyData.depth]
  omega
theorem ne_ints {K : PySem.W.Frag} {H : Hp} {Q : VK} {a b : Addr} {xs ys : List Int} (ha : H a = some (.lst (xs.map V.int))) (hb : H b = some (.lst (ys.map V.int))) (fin : Q (.bl (!decide (xs = ys))) H) : rNeD K (.ref a) (.ref b) H Q := by
  refine ⟨.list (xs.map PyData.int), .list (ys.map PyData.int), Dp.lst (SqL.of ha) (dp_ints xs), Dp.lst (SqL.of hb) (dp_ints ys), shaped_ints xs, shaped_ints ys, ?_⟩
  rw [eqv_lists]
  exact fin
theorem eq_tups {K : PySem.W.Frag} {H : Hp} {Q : VK} {a b : Addr} {xs ys : List Int} (ha : H a = some (.tup (xs.map V.int))) (hb : H b = some (.tup (ys.map V.int))) (fin : Q (.bl (decide (xs = ys))) H) : rEqD K (.ref a) (.ref b) H Q := by
  refine ⟨.tuple (xs.map PyData.int), .tuple (ys.map PyData.int), Dp.tup (SqT.of ha) (dp_ints xs), Dp.tup (SqT.of hb) (dp_ints ys), shaped_tints xs, shaped_tints ys, ?_⟩
  rw [eqv_tups]
  exact fin
theorem rep_map (ns : List Int) : ∀ k : Nat, (List.replicate k (ns.map V.int)).flatten = ((List.replicate k ns).flatten).map V.int
  | 0 => by simp
  | k + 1 => by rw [List.replicate_succ, List.replicate_succ, List.flatten_cons, List.flatten_cons, rep_map ns k, List.map_append]
/-- a walk over a list or a tuple -/
def iSeq (K : PySem.W.Frag) (te : TE) : TI := fun σ H R => iList K te σ H R ∨ iTup K te σ H R
theorem pi_seq (h : PE X e te) : PI X tg e (iSeq X.K te) := ⟨fun pins s σ H R I z => z.elim ((pi_list (tg := tg) h).run pins s σ H R I) ((pi_tup (tg := tg) h).run pins s σ H R I)⟩
end
/-- at l: a list or a tuple of these -/
def SeqAt2 (H : Hp) (l : Addr) (xs : List V) : Prop := H l = some (.lst xs) ∨ H l = some (.tup xs)
theorem SeqAt2.same {H H' : Hp} {l : Addr} {xs : List V} (h : SeqAt2 H l xs) (s : Same H H') : SeqAt2 H' l xs := h.imp (fun z => s _ _ z) fun z => s _ _ z
theorem SeqAt2.of {K : PySem.W.Frag} {H : Hp} {l : Addr} {xs : List V} (h : SeqAt2 H l xs) : SqL K H l xs ∨ SqT K H l xs := h.imp (fun z => SqL.of z) fun z => SqT.of z
theorem SeqAt2.len {K : PySem.W.Frag} {H : Hp} {l : Addr} {xs : List V} (h : SeqAt2 H l xs) : LenV K (.ref l) H xs.length := h.imp (fun z => ⟨xs, SqL.of z, rfl⟩) fun z => ⟨xs, SqT.of z, rfl⟩
theorem SeqAt2.ix {K : PySem.W.Frag} {H : Hp} {Q : VK} {l : Addr} {xs : List V} {i : Int} {v : V} (h : SeqAt2 H l xs) (e : atI xs i = some v) (q : Q v H) : rIx K (.ref l) (.int i) H Q := by
  rcases h with z | z
  · exact .inl ⟨l, xs, i, v, rfl, rfl, SqL.of z, e, q⟩
  · exact .inr (.inl ⟨l, xs, i, v, rfl, rfl, SqT.of z, e, q⟩)
/-- the argument is a list or a tuple of these, or no list and no tuple -/
def SeqOf (H : Hp) (v : V) : Option (List V) → Prop
  | some xs => ∃ l, v = .ref l ∧ SeqAt2 H l xs
  | none => Kd H v ∧ ∀ l, v = .ref l → ∃ kvs, H l = some (.dK kvs)
theorem SeqOf.same {H H' : Hp} {v : V} {o : Option (List V)} (h : SeqOf H v o) (s : Same H H') : SeqOf H' v o := by
  cases o with
  | some xs => exact h.imp fun l z => ⟨z.1, z.2.same s⟩
  | none => exact ⟨h.1.same s, fun l e => (h.2 l e).imp fun k z => s _ _ z⟩
theorem seq_kit {K : PySem.W.Frag} {H : Hp} {v : V} {o : Option (List V)} (h : SeqOf H v o) : ∃ t, TyX K H v t ∧ PySem.W.kitAny K t [.type "list", .type "tuple"] = some o.isSome := by
  have no : ∀ n : String, kitB n "list" = some false → kitB n "tuple" = some false → PySem.W.kitAny K (.type n) [.type "list", .type "tuple"] = some false := fun n a b =>
    kitAny_cons (kit_ty a) (fun _ => kitAny_cons (kit_ty b) (fun _ => kitAny_nil) fun z => nomatch z) fun z => nomatch z
  cases o with
  | some xs =>
    obtain ⟨l, rfl, h⟩ := h
    rcases h with h | h
    · exact ⟨_, .base (.lst h), kitAny_cons (b := true) (kit_ty (show kitB "list" "list" = some true by decide +kernel)) (fun z => nomatch z) fun _ => rfl⟩
    · exact ⟨_, .base (.tup h), kitAny_cons (b := false) (kit_ty (show kitB "tuple" "list" = some false by decide +kernel)) (fun _ => kitAny_cons (b := true) (kit_ty (show kitB "tuple" "tuple" = some true by decide +kernel)) (fun z => nomatch z) fun _ => rfl) fun z => nomatch z⟩
  | none =>
    obtain ⟨kd, h⟩ := h
    cases v with
    | non => exact ⟨_, .base .non, no _ (by decide +kernel) (by decide +kernel)⟩
    | bl b => exact ⟨_, .base (.bl b), no _ (by decide +kernel) (by decide +kernel)⟩
    | int i => exact ⟨_, .base (.int i), no _ (by decide +kernel) (by decide +kernel)⟩
    | str z => exact ⟨_, .base (.str z), no _ (by decide +kernel) (by decide +kernel)⟩
    | ref a =>
      obtain ⟨kvs, e⟩ := h a rfl
      exact ⟨_, .base (.dK e), no _ (by decide +kernel) (by decide +kernel)⟩
    | byt _ => exact kd.elim
    | flt _ => exact kd.elim
    | ty _ => exact kd.elim
theorem baded {C : Addr} {f : Str} {v : V} {E : XK} {W : WX} {σ : L2.St} {H : Hp} (h : BadE C f v E H) (hW : ∀ cls d H', E cls d H' → W cls d σ H') : tMkO C (spErrI C f) [] (tCons (tC v) tNil) σ H (fun cls d H' => W cls d σ H') := by
  refine ⟨(show 1 ≤ 1000 by decide), fun a ha => ⟨a, v, rfl, upd_same, fun d hd ne => ⟨rfl, d, _, upd_same, by rw [upd_ne ne, upd_same], by rw [upd_ne ne] at hd; exact hd, ?_⟩⟩⟩
  have hd0 : H d = none := by rw [upd_ne ne] at hd; exact hd
  have e : upd (del (upd (upd (upd H a (exo a C none)) d (exd d [(f, v)])) a (exo a C (some d))) a) d (.xd [(f, v)]) = upd H d (.xd [(f, v)]) := by
    funext b
    by_cases hb : b = d
    · subst hb
      rw [upd_same, upd_same]
    · rw [upd_ne hb, upd_ne hb]
      by_cases hba : b = a
      · subst hba
        rw [del_same, ha]
      · rw [del_ne hba, upd_ne hba, upd_ne hb, upd_ne hba]
  show W (.ref C) (some d) σ (upd (del (upd (upd (upd H a (exo a C none)) d (exd d [(f, v)])) a (exo a C (some d))) a) d (.xd [(f, v)]))
  rw [e]
  exact hW _ _ _ (h d hd0)
/-! ### the parts of a table -/
/-- the items are worths, the first is 0 -/
def worthsOk (xs : List V) : Bool := xs.all (numV 0 400) && decide (xs[0]? = some (.int 0))
def toN : V → Nat
  | .int i => i.toNat
  | _ => 0
/-- the wrong one of the parts -/
def dueT (b p : V) (o : Option (List V)) : Option Str := if numV 0 1000 b = true then (if numV 1 1000 p = true then (match o with
  | some xs => if xs.length = toN b + toN p then (if worthsOk xs = true then none else some "numbers") else some "numbers"
  | none => some "numbers") else some "period") else some "begin"
theorem all_ints {xs : List V} {lo hi : Int} (h : xs.all (numV lo hi) = true) : ∃ ns : List Int, xs = ns.map V.int ∧ ∀ n ∈ ns, lo ≤ n ∧ n ≤ hi := by
  induction xs with
  | nil => exact ⟨[], rfl, fun _ z => by cases z⟩
  | cons x r ih =>
    rw [List.all_cons, Bool.and_eq_true] at h
    obtain ⟨i, rfl, a, b⟩ := numV_is h.1
    obtain ⟨ns, rfl, q⟩ := ih h.2
    refine ⟨i :: ns, rfl, fun n hn => ?_⟩
    rcases List.mem_cons.mp hn with rfl | hn
    · exact ⟨a, b⟩
    · exact q n hn
theorem dueT_none {b p : V} {o : Option (List V)} (h : dueT b p o = none) : ∃ (bn pn : Nat) (ns : List Int), b = .int bn ∧ p = .int pn ∧ o = some (ns.map V.int) ∧ bn ≤ 1000 ∧ 1 ≤ pn ∧ pn ≤ 1000 ∧ Told ns bn pn ∧ ns[0]? = some 0 := by
  unfold dueT at h
  cases e1 : numV 0 1000 b with
  | false => rw [e1] at h; cases h
  | true =>
    rw [e1, if_pos rfl] at h
    cases e2 : numV 1 1000 p with
    | false => rw [e2] at h; cases h
    | true =>
      rw [e2, if_pos rfl] at h
      cases o with
      | none => cases h
      | some xs =>
        dsimp only at h
        by_cases l : xs.length = toN b + toN p
        · rw [if_pos l] at h
          cases w : worthsOk xs with
          | false => rw [w] at h; cases h
          | true =>
            unfold worthsOk at w
            rw [Bool.and_eq_true] at w
            obtain ⟨ns, rfl, q⟩ := all_ints w.1
            obtain ⟨bi, rfl, b0, b1⟩ := numV_is e1
            obtain ⟨pi, rfl, p0, p1⟩ := numV_is e2
            obtain ⟨bn, rfl⟩ := Int.eq_ofNat_of_zero_le b0
            obtain ⟨pn, rfl⟩ := Int.eq_ofNat_of_zero_le (show 0 ≤ pi by omega)
            have f := of_decide_eq_true w.2
            rw [List.getElem?_map] at f
            refine ⟨bn, pn, ns, rfl, rfl, rfl, by omega, by omega, by omega, ⟨by rw [List.length_map] at l; exact l, by omega, q⟩, ?_⟩
            cases z : ns[0]? with
            | none => rw [z] at f; cases f
            | some v =>
              rw [z] at f
              have f2 : V.int v = .int 0 := Option.some.inj f
              rw [V.int.inj f2]
        · rw [if_neg l] at h; cases h
theorem dueT_of {bn pn : Nat} {ns : List Int} (b1 : bn ≤ 1000) (p1 : pn ≤ 1000) (t : Told ns bn pn) (z : ns[0]? = some 0) : dueT (.int bn) (.int pn) (some (ns.map V.int)) = none := by
  unfold dueT
  have e1 : numV 0 1000 (.int bn) = true := by unfold numV; simp; omega
  have e2 : numV 1 1000 (.int pn) = true := by have := t.n1; unfold numV; simp; omega
  rw [if_pos e1, if_pos e2]
  dsimp only
  have l : (ns.map V.int).length = toN (.int bn) + toN (.int pn) := by
    rw [List.length_map, t.len]
    rfl
  rw [if_pos l]
  have w : worthsOk (ns.map V.int) = true := by
    unfold worthsOk
    rw [Bool.and_eq_true]
    refine ⟨?_, decide_eq_true (by rw [List.getElem?_map, z]; rfl)⟩
    rw [List.all_map, List.all_eq_true]
    intro n hn
    have q := t.fit n hn
    show numV 0 400 (.int n) = true
    unfold numV
    simp
    omega
  rw [if_pos w]
/-! ### tables -/
structure TabC (K : PySem.W.Frag) (C : Addr) : Prop where
  cl : Cls K C
  nBegin : PySem.W.findIn K (.ref C) "begin" = some none
  nPeriod : PySem.W.findIn K (.ref C) "period" = some none
  nNumbers : PySem.W.findIn K (.ref C) "numbers" = some none
def tfs (b p : Int) (t : Addr) : List (Str × V) := putF "numbers" (.ref t) (putF "period" (.int p) (putF "begin" (.int b) []))
def TabAt (CT : Addr) (H : Hp) (x : Addr) (b p : Nat) (ns : List Int) : Prop := ∃ dx t, H x = some (.ins CT dx (tfs b p t)) ∧ H t = some (.tup (ns.map V.int))
theorem TabAt.same {CT : Addr} {H H' : Hp} {x : Addr} {b p : Nat} {ns : List Int} (h : TabAt CT H x b p ns) (s : Same H H') : TabAt CT H' x b p ns := let ⟨dx, t, a, c⟩ := h; ⟨dx, t, s _ _ a, s _ _ c⟩
theorem TabAt.ext {CT : Addr} {H H' : Hp} {x : Addr} {b p : Nat} {ns : List Int} (h : TabAt CT H x b p ns) (s : LamX.ExtN H H') : TabAt CT H' x b p ns := let ⟨dx, t, a, c⟩ := h; ⟨dx, t, s _ _ a (fun _ z => nomatch z), s _ _ c (fun _ z => nomatch z)⟩
theorem TabAt.mv {CT : Addr} {H H' : Hp} {x p q : Addr} {n b pe : Nat} {ns : List Int} (h : TabAt CT H x b pe ns) (pen : PenAt n H p q) (m : Mv p H H') : TabAt CT H' x b pe ns := by
  obtain ⟨dx, t, a, c⟩ := h
  obtain ⟨xs, hp⟩ := pen.lst
  exact ⟨dx, t, m _ _ (fun z => by rw [z, hp] at a; cases a) a, m _ _ (fun z => by rw [z, hp] at c; cases c) c⟩
/-- Table.__init__ -/
def spTable (CB CT : Addr) : Sp := fun vs H Q E => ∃ (x dx : Addr) (b p v : V) (o : Option (List V)), vs = [.ref x, b, p, v] ∧ H x = some (.ins CT dx []) ∧ Kd H b ∧ Kd H p ∧ SeqOf H v o ∧ (∀ xs, o = some xs → xs.length ≤ 3000 ∧ ∀ y ∈ xs, Kd H y) ∧
  (∀ z H', dueT b p o = some z → Mv x H H' → BadE CB "part" (.str z) E H') ∧
  (dueT b p o = none → ∀ (bn pn : Nat) (ns : List Int), b = .int bn → p = .int pn → o = some (ns.map V.int) → Told ns bn pn → ∀ H' b' p', Form (atW ns bn pn) b' p' → b' + p' ≤ bn + pn → Mv x H H' → (∃ t, H' x = some (.ins CT dx (tfs b' p' t)) ∧ H' t = some (.tup ((nums (atW ns bn pn) (b' + p')).map V.int))) → Q .non H')
def spCheckP (CB : Addr) : Sp := fun vs H Q E => ∃ (b p v : V) (o : Option (List V)), vs = [b, p, v] ∧ Kd H b ∧ Kd H p ∧ SeqOf H v o ∧ (∀ xs, o = some xs → xs.length ≤ 3000 ∧ ∀ y ∈ xs, Kd H y) ∧ (∀ z H', dueT b p o = some z → Same H H' → BadE CB "part" (.str z) E H') ∧ (dueT b p o = none → ∀ H', Same H H' → Q .non H')
def spLeastP : Sp := fun vs H Q _ => ∃ (l : Addr) (ns : List Int), vs = [.ref l] ∧ H l = some (.lst (ns.map V.int)) ∧ 1 ≤ ns.length ∧ ns.length ≤ 3000 ∧ ∀ H' p, Same H H' → LeastRep ns p → Q (.int (p : Nat)) H'
/-- Table(a, n, row) that may not fail -/
theorem table_made {CB CT x dx l : Addr} {H : Hp} {a n : Nat} {row : List Int} (hl : SeqAt2 H l (row.map V.int)) (t : Told row a n) (z : row[0]? = some 0) (a1 : a ≤ 1000) (n1 : n ≤ 1000) (hx : H x = none) (hd : H dx = none) {E : XK} {G : Hp → Prop}
    (hG : ∀ H' b p, Same H H' → Form (atW row a n) b p → b + p ≤ a + n → TabAt CT H' x b p (nums (atW row a n) (b + p)) → G H') : spTable CB CT [.ref x, .int a, .int n, .ref l] (upd (upd H dx (.own x)) x (.ins CT dx [])) (fun v H' => v = .non ∧ G H') E := by
  have up := up_made (C := CT) hx hd
  have due := dueT_of a1 n1 t z
  refine ⟨x, dx, .int a, .int n, .ref l, some (row.map V.int), rfl, upd_same, True.intro, True.intro, ⟨l, rfl, hl.same up⟩, fun xs e => ?_, fun z H' e _ => ?_, fun _ bn pn ns e1 e2 e3 told H' b p f le mv at_ => ⟨rfl, ?_⟩⟩
  · cases e
    refine ⟨by rw [List.length_map, t.len]; omega, fun y hy => ?_⟩
    obtain ⟨i, _, rfl⟩ := List.mem_map.mp hy
    exact True.intro
  · rw [due] at e
    cases e
  · have q1 : bn = a := by have := V.int.inj e1; omega
    have q2 : pn = n := by have := V.int.inj e2; omega
    have q3 : ns = row := ((List.map_inj_right fun _ _ h => V.int.inj h).mp (Option.some.inj e3)).symm
    subst q1 q2 q3
    obtain ⟨t', h1, h2⟩ := at_
    exact hG H' b p (made_same hx hd mv) f le ⟨dx, t', h1, h2⟩
end Fz

set_option Elab.async false
set_option linter.all false
set_option maxRecDepth 100000
set_option maxHeartbeats 2000000
/-! Own layer: rows that are lists or tuples; the least period by comparing (pure); targets that are fields. -/
namespace Fz
open PySem PySem.Spec PyProof.Rows L2
/-- at l: a tuple (t) or a list of these -/
def SqB (t : Bool) (H : Hp) (l : Addr) (xs : List V) : Prop := H l = some (if t = true then .tup xs else .lst xs)
theorem SqB.same {t : Bool} {H H' : Hp} {l : Addr} {xs : List V} (h : SqB t H l xs) (s : Same H H') : SqB t H' l xs := s _ _ h
theorem SqB.ii {t : Bool} {H : Hp} {l : Addr} {xs : List V} (h : SqB t H l xs) : SeqAt2 H l xs := by
  cases t with
  | false => exact .inl h
  | true => exact .inr h
theorem SeqAt2.bb {H : Hp} {l : Addr} {xs : List V} (h : SeqAt2 H l xs) : ∃ t, SqB t H l xs := by
  rcases h with h | h
  · exact ⟨false, h⟩
  · exact ⟨true, h⟩
theorem cutV_all {xs : List V} {lo hi : Option Int} (h : HT.sIx xs.length 0 lo = 0 ∧ HT.sIx xs.length xs.length hi = xs.length) : cutV xs lo hi = xs := by
  unfold cutV
  rw [h.1, h.2, List.drop_zero, Nat.sub_zero, List.take_length]
def rSlS (K : PySem.W.Frag) : V → Option Int → Option Int → Hp → VK → Prop := fun x lo hi H Q => rSlL K x lo hi H Q ∨ rSlA K x lo hi H Q
theorem sl_seq {X : Cx} : SlR X (rSlS X.K) := sl_list.or sl_tupA
theorem SqB.cut {K : PySem.W.Frag} {t : Bool} {H : Hp} {l : Addr} {xs : List V} {lo hi : Option Int} {Q : VK} (h : SqB t H l xs) (q : ∀ p H', Same H H' → SqB t H' p (cutV xs lo hi) → Q (.ref p) H') : rSlS K (.ref l) lo hi H Q := by
  cases t with
  | false => exact .inl ⟨l, xs, rfl, SqL.of h, fun p hp => q p _ (Same.new hp) upd_same⟩
  | true => exact .inr ⟨l, xs, rfl, SqT.of h, fun w => q l H (fun _ _ z => z) (by rw [cutV_all w]; exact h), fun _ p hp => q p _ (Same.new hp) upd_same⟩
theorem SqB.eq {K : PySem.W.Frag} {t : Bool} {H : Hp} {a b : Addr} {xs ys : List Int} {Q : VK} (ha : SqB t H a (xs.map V.int)) (hb : SqB t H b (ys.map V.int)) (fin : Q (.bl (decide (xs = ys))) H) : rEqD K (.ref a) (.ref b) H Q := by
  cases t with
  | false =>
    refine ⟨.list (xs.map PyData.int), .list (ys.map PyData.int), Dp.lst (SqL.of ha) (dp_ints xs), Dp.lst (SqL.of hb) (dp_ints ys), shaped_ints xs, shaped_ints ys, ?_⟩
    rw [eqv_lists]
    exact fin
  | true => exact eq_tups ha hb fin
theorem SqB.tuple {K : PySem.W.Frag} {t : Bool} {H : Hp} {l : Addr} {xs : List V} {Q : VK} (h : SqB t H l xs) (q : ∀ p H', Same H H' → H' p = some (.tup xs) → Q (.ref p) H') : ∃ p ys, [V.ref l] = [.ref p] ∧ ((SqL K H p ys ∧ ∀ l, H l = none → Q (.ref l) (upd H l (.tup ys))) ∨ (SqT K H p ys ∧ Q (.ref p) H)) := by
  cases t with
  | false => exact ⟨l, xs, rfl, .inl ⟨SqL.of h, fun p hp => q p _ (Same.new hp) upd_same⟩⟩
  | true => exact ⟨l, xs, rfl, .inr ⟨SqT.of h, q l H (fun _ _ z => z) h⟩⟩
/-- the period p repeats exactly if p divides the length and the row without its last p items is the row without its first p -/
theorem near_iff {r : List Int} {p : Nat} (p1 : 1 ≤ p) (p2 : p ≤ r.length) : Rep r p ↔ (r.length % p = 0 ∧ r.take (r.length - p) = r.drop p) := by
  rw [rep_iff p1 p2]
  have gt : ∀ i, i < r.length - p → (r.take (r.length - p)).getD i 0 = r.getD i 0 := fun i hi => by
    rw [List.getD_eq_getElem?_getD, List.getElem?_take_of_lt hi, ← List.getD_eq_getElem?_getD]
  have gd : ∀ i, (r.drop p).getD i 0 = r.getD (p + i) 0 := fun i => drop_get r p i
  constructor
  · rintro ⟨d, h⟩
    refine ⟨Nat.mod_eq_zero_of_dvd d, ext_getD (by rw [List.length_take, List.length_drop]; omega) fun i hi => ?_⟩
    rw [List.length_take] at hi
    have hi2 : i < r.length - p := by omega
    rw [gt i hi2, gd, h i (by omega), h (p + i) (by omega), Nat.add_mod_left]
  · rintro ⟨d, h⟩
    refine ⟨Nat.dvd_of_mod_eq_zero d, fun i => ?_⟩
    induction i using Nat.strongRecOn with
    | ind i ih =>
      intro hi
      rcases Nat.lt_or_ge i p with l | l
      · rw [Nat.mod_eq_of_lt l]
      · have q := ih (i - p) (by omega) (by omega)
        have e : (r.take (r.length - p)).getD (i - p) 0 = (r.drop p).getD (i - p) 0 := by rw [h]
        rw [gt (i - p) (by omega), gd, show p + (i - p) = i by omega] at e
        rw [← e, q]
        have m : (i - p) % p = i % p := by
          conv => rhs; rw [show i = i - p + p by omega, Nat.add_mod_right]
        rw [m]
section
variable {X : Cx} {o : Expr} {f : Str} {pos : Pos} {ta : TE}
/-- e.f = the value, as a target -/
def gFld (K : PySem.W.Frag) (ta : TE) (f : Str) : TG := fun y σ H Q => ta σ H fun x H2 => ∃ a C dx fs, x = .ref a ∧ H2 a = some (.ins C dx fs) ∧ Cls K C ∧ NoAttr K C f ∧ fs.length < 1000 ∧ Q σ (upd H2 a (.ins C dx (putF f y fs)))
theorem pg_fld (ha : PE X o ta) : PG X (.Attribute o f pos) (gFld X.K ta f) := by
  refine ⟨fun pins s σ H v u Q I r h => ?_⟩
  refine PySem.W.kas_attr (thn (ha.run pins s σ H _ I h) fun ov s1 ⟨x, H1, I1, rx, a, C, dx, fs, ex, ea, c, n, l, q⟩ => ?_)
  subst ex
  obtain rfl : ov = Value.ref a := rx
  exact setattr_ok I1 ea c n l r fun s2 I2 => ⟨σ, _, I2, q⟩
end
/-- what is wrong with the row of a table before its worths are looked at -/
def dueW (part : Str) (b p : V) (o : Option (List V)) : Option Str := if numV 0 1000 b = true then (if numV 1 1000 p = true then (match o with
  | some xs => if xs.length = toN b + toN p then none else some part
  | none => some part) else some "period") else some "begin"
theorem dueW_some {b p : V} {o : Option (List V)} {z : Str} (h : dueW "numbers" b p o = some z) : dueT b p o = some z := by
  unfold dueW at h
  unfold dueT
  cases e1 : numV 0 1000 b with
  | false => rw [e1] at h; exact h
  | true =>
    rw [e1, if_pos rfl] at h
    rw [if_pos rfl]
    cases e2 : numV 1 1000 p with
    | false => rw [e2] at h; exact h
    | true =>
      rw [e2, if_pos rfl] at h
      rw [if_pos rfl]
      cases o with
      | none => exact h
      | some xs =>
        dsimp only at h ⊢
        by_cases l : xs.length = toN b + toN p
        · rw [if_pos l] at h; cases h
        · rw [if_neg l] at h ⊢; exact h
theorem dueW_none {part : Str} {b p : V} {o : Option (List V)} (h : dueW part b p o = none) : ∃ (bn pn : Nat) (xs : List V), b = .int bn ∧ p = .int pn ∧ o = some xs ∧ bn ≤ 1000 ∧ 1 ≤ pn ∧ pn ≤ 1000 ∧ xs.length = bn + pn ∧ dueT b p o = if worthsOk xs = true then none else some ("numbers" : Str) := by
  unfold dueW at h
  cases e1 : numV 0 1000 b with
  | false => rw [e1] at h; cases h
  | true =>
    rw [e1, if_pos rfl] at h
    cases e2 : numV 1 1000 p with
    | false => rw [e2] at h; cases h
    | true =>
      rw [e2, if_pos rfl] at h
      cases o with
      | none => cases h
      | some xs =>
        dsimp only at h
        by_cases l : xs.length = toN b + toN p
        · obtain ⟨bi, rfl, b0, b1⟩ := numV_is e1
          obtain ⟨pi, rfl, p0, p1⟩ := numV_is e2
          obtain ⟨bn, rfl⟩ := Int.eq_ofNat_of_zero_le b0
          obtain ⟨pn, rfl⟩ := Int.eq_ofNat_of_zero_le (show 0 ≤ pi by omega)
          refine ⟨bn, pn, xs, rfl, rfl, rfl, by omega, by omega, by omega, l, ?_⟩
          unfold dueT
          rw [if_pos e1, if_pos e2]
          dsimp only
          rw [if_pos l]
        · rw [if_neg l] at h; cases h
/-- check_row -/
def spCheckR (CB : Addr) : Sp := fun vs H Q E => ∃ (b p v : V) (part : Str) (o : Option (List V)), vs = [b, p, v, .str part] ∧ Kd H b ∧ Kd H p ∧ SeqOf H v o ∧ (∀ xs, o = some xs → xs.length ≤ 3000) ∧ (∀ z H', dueW part b p o = some z → Same H H' → BadE CB "part" (.str z) E H') ∧ (dueW part b p o = none → ∀ H', Same H H' → Q .non H')
/-- least_period -/
def spLeastR : Sp := fun vs H Q _ => ∃ (l : Addr) (t : Bool) (ns : List Int), vs = [.ref l] ∧ SqB t H l (ns.map V.int) ∧ 1 ≤ ns.length ∧ ns.length ≤ 3000 ∧ ∀ H' p, Same H H' → LeastRep ns p → Q (.int (p : Nat)) H'
/-- least_form -/
def spLeastF : Sp := fun vs H Q _ => ∃ (l : Addr) (t : Bool) (ns : List Int) (bn pn : Nat), vs = [.ref l, .int bn] ∧ SqB t H l (ns.map V.int) ∧ Told ns bn pn ∧ bn + pn ≤ 3000 ∧ ∀ H' u b p, Same H H' → H' u = some (.tup [.int (b : Nat), .int (p : Nat)]) → Form (atW ns bn pn) b p → b + p ≤ bn + pn → Q (.ref u) H'
end Fz

set_option Elab.async false
set_option linter.all false
set_option maxRecDepth 100000
set_option maxHeartbeats 2000000
/-! Own layer: rows of truths; their least form; last tables as objects. -/
namespace Fz
open PySem PySem.Spec PyProof.Rows L2
def zi (b : Bool) : Int := if b = true then 1 else 0
theorem zi_inj {a b : Bool} (h : zi a = zi b) : a = b := by revert h; cases a <;> cases b <;> decide
def bz (bs : List Bool) : List Int := bs.map zi
theorem bz_len (bs : List Bool) : (bz bs).length = bs.length := List.length_map ..
theorem bz_get (bs : List Bool) (i : Nat) : (bz bs).getD i 0 = zi (bs.getD i false) := by
  unfold bz
  rw [List.getD_eq_getElem?_getD, List.getD_eq_getElem?_getD, List.getElem?_map]
  cases bs[i]? <;> rfl
theorem bz_inj {xs ys : List Bool} (h : bz xs = bz ys) : xs = ys := (List.map_inj_right fun _ _ e => zi_inj e).mp h
theorem bz_told {bs : List Bool} {a n : Nat} (l : bs.length = a + n) (n1 : 1 ≤ n) : Told (bz bs) a n := ⟨by rw [bz_len, l], n1, fun x hx => by
  obtain ⟨b, _, rfl⟩ := List.mem_map.mp hx
  cases b <;> decide⟩
def atB (bs : List Bool) (a n h : Nat) : Bool := bs.getD (if h < a then h else a + (h - a) % n) false
theorem atW_bz (bs : List Bool) (a n h : Nat) : atW (bz bs) a n h = zi (atB bs a n h) := bz_get ..
def boolsW (bs : List Bool) (a n k : Nat) : List Bool := (List.range k).map (atB bs a n)
theorem boolsW_len (bs : List Bool) (a n k : Nat) : (boolsW bs a n k).length = k := by unfold boolsW; rw [List.length_map, List.length_range]
theorem boolsW_at {bs : List Bool} {a n k i : Nat} (h : i < k) : (boolsW bs a n k)[i]? = some (atB bs a n i) := by
  unfold boolsW
  rw [List.getElem?_map, List.getElem?_range h]
  rfl
theorem boolsW_succ (bs : List Bool) (a n k : Nat) : boolsW bs a n (k + 1) = boolsW bs a n k ++ [atB bs a n k] := by
  unfold boolsW
  rw [List.range_succ, List.map_append]
  rfl
theorem boolsW_take {bs : List Bool} {a n k m : Nat} (h : k ≤ m) : (boolsW bs a n m).take k = boolsW bs a n k := by
  unfold boolsW
  rw [← List.map_take, List.take_range, Nat.min_eq_left h]
theorem take_boolsW {bs : List Bool} {a n k : Nat} (l : bs.length = a + n) (n1 : 1 ≤ n) (h : k ≤ a + n) : bs.take k = boolsW bs a n k := by
  apply bz_inj
  have q := take_nums (bz_told l n1) h
  unfold bz boolsW at *
  rw [List.map_take, q, nums, List.map_map]
  exact List.map_congr_left fun i _ => atW_bz bs a n i
theorem atB_lo {bs : List Bool} {a n h : Nat} (l : h < a) : atB bs a n h = bs.getD h false := by unfold atB; rw [if_pos l]
theorem atB_hi {bs : List Bool} {a n h : Nat} (l : a ≤ h) : atB bs a n h = bs.getD (a + (h - a) % n) false := by unfold atB; rw [if_neg (by omega)]
theorem atB_per {bs : List Bool} {a n i : Nat} (l : a ≤ i) : atB bs a n (i + n) = atB bs a n i := zi_inj (by rw [← atW_bz, ← atW_bz]; exact atW_per1 l)
theorem eqv_bools' : ∀ xs ys : List Bool, PyData.eqvAll (xs.map PyData.bool) (ys.map PyData.bool) = decide (xs = ys)
  | [], [] => by simp [PyData.eqvAll]
  | [], y :: ys => by simp [PyData.eqvAll]
  | x :: xs, [] => by simp [PyData.eqvAll]
  | x :: xs, y :: ys => by
    show (PyData.eqv (.bool x) (.bool y) && PyData.eqvAll (xs.map PyData.bool) (ys.map PyData.bool)) = _
    rw [eqv_bools' xs ys]
    by_cases h : x = y <;> simp [PyData.eqv, h]
theorem shaped_tbools (bs : List Bool) : SeqAt.shaped (.tuple (bs.map PyData.bool)) = true := by
  have q := depth_bools bs
  unfold SeqAt.shaped
  rw [show PyData.canLay0 (.tuple (bs.map PyData.bool)) = PyData.canLayAll0 (bs.map PyData.bool) from by simp [PyData.canLay0], lay_bools, Bool.true_and]
  refine decide_eq_true ?_
  simp only [PyData.depth]
  omega
theorem SqB.eqB {K : PySem.W.Frag} {t : Bool} {H : Hp} {a b : Addr} {xs ys : List Bool} {Q : VK} (ha : SqB t H a (xs.map V.bl)) (hb : SqB t H b (ys.map V.bl)) (fin : Q (.bl (decide (xs = ys))) H) : rEqD K (.ref a) (.ref b) H Q := by
  cases t with
  | false =>
    refine ⟨.list (xs.map PyData.bool), .list (ys.map PyData.bool), Dp.lst (SqL.of ha) (dp_bools xs), Dp.lst (SqL.of hb) (dp_bools ys), shaped_bools xs, shaped_bools ys, ?_⟩
    rw [show PyData.eqv (.list (xs.map PyData.bool)) (.list (ys.map PyData.bool)) = PyData.eqvAll (xs.map PyData.bool) (ys.map PyData.bool) from by simp [PyData.eqv], eqv_bools']
    exact fin
  | true =>
    refine ⟨.tuple (xs.map PyData.bool), .tuple (ys.map PyData.bool), Dp.tup (SqT.of ha) (dp_bools xs), Dp.tup (SqT.of hb) (dp_bools ys), shaped_tbools xs, shaped_tbools ys, ?_⟩
    rw [show PyData.eqv (.tuple (xs.map PyData.bool)) (.tuple (ys.map PyData.bool)) = PyData.eqvAll (xs.map PyData.bool) (ys.map PyData.bool) from by simp [PyData.eqv], eqv_bools']
    exact fin
theorem near_bz {r : List Bool} {p : Nat} (p1 : 1 ≤ p) (p2 : p ≤ r.length) : Rep (bz r) p ↔ (r.length % p = 0 ∧ r.take (r.length - p) = r.drop p) := by
  have q := near_iff (r := bz r) p1 (by rw [bz_len]; exact p2)
  rw [bz_len] at q
  rw [q]
  refine and_congr_right fun _ => ?_
  unfold bz
  rw [← List.map_take, ← List.map_drop]
  exact List.map_inj_right fun _ _ e => zi_inj e
theorem back_bz {r : List Bool} {a p b : Nat} (le : b ≤ a) (same : ∀ i, b ≤ i → i < a → r.getD i false = r.getD (i + p) false) (low : b = 0 ∨ r.getD (b - 1) false ≠ r.getD (b - 1 + p) false) : Back (bz r) a p b :=
  ⟨le, fun i h1 h2 => by rw [bz_get, bz_get, same i h1 h2], low.imp id fun h e => h (zi_inj (by rw [← bz_get, ← bz_get]; exact e))⟩
/-- least_period of truths -/
def spLeastRB : Sp := fun vs H Q _ => ∃ (l : Addr) (t : Bool) (ns : List Bool), vs = [.ref l] ∧ SqB t H l (ns.map V.bl) ∧ 1 ≤ ns.length ∧ ns.length ≤ 3000 ∧ ∀ H' p, Same H H' → LeastRep (bz ns) p → Q (.int (p : Nat)) H'
/-- least_form of truths -/
def spLeastFB : Sp := fun vs H Q _ => ∃ (l : Addr) (t : Bool) (ns : List Bool) (bn pn : Nat), vs = [.ref l, .int bn] ∧ SqB t H l (ns.map V.bl) ∧ Told (bz ns) bn pn ∧ bn + pn ≤ 3000 ∧ ∀ H' u b p, Same H H' → H' u = some (.tup [.int (b : Nat), .int (p : Nat)]) → Form (atW (bz ns) bn pn) b p → b + p ≤ bn + pn → Q (.ref u) H'
/-! ### the parts of a last table -/
def truthsOk (xs : List V) : Bool := xs.all isBlV && decide (xs[0]? = some (.bl true))
theorem all_bools {xs : List V} (h : xs.all isBlV = true) : ∃ bs : List Bool, xs = bs.map V.bl := by
  induction xs with
  | nil => exact ⟨[], rfl⟩
  | cons x r ih =>
    rw [List.all_cons, Bool.and_eq_true] at h
    obtain ⟨bs, rfl⟩ := ih h.2
    cases x with
    | bl b => exact ⟨b :: bs, rfl⟩
    | _ => cases h.1
def dueL (b p : V) (o : Option (List V)) : Option Str := if numV 0 1000 b = true then (if numV 1 1000 p = true then (match o with
  | some xs => if xs.length = toN b + toN p then (if truthsOk xs = true then none else some "truths") else some "truths"
  | none => some "truths") else some "period") else some "begin"
theorem dueL_some {b p : V} {o : Option (List V)} {z : Str} (h : dueW "truths" b p o = some z) : dueL b p o = some z := by
  unfold dueW at h
  unfold dueL
  cases e1 : numV 0 1000 b with
  | false => rw [e1] at h; exact h
  | true =>
    rw [e1, if_pos rfl] at h
    rw [if_pos rfl]
    cases e2 : numV 1 1000 p with
    | false => rw [e2] at h; exact h
    | true =>
      rw [e2, if_pos rfl] at h
      rw [if_pos rfl]
      cases o with
      | none => exact h
      | some xs =>
        dsimp only at h ⊢
        by_cases l : xs.length = toN b + toN p
        · rw [if_pos l] at h; cases h
        · rw [if_neg l] at h ⊢; exact h
theorem dueL_none {b p : V} {o : Option (List V)} (h : dueW "truths" b p o = none) : ∃ (bn pn : Nat) (xs : List V), b = .int bn ∧ p = .int pn ∧ o = some xs ∧ bn ≤ 1000 ∧ 1 ≤ pn ∧ pn ≤ 1000 ∧ xs.length = bn + pn ∧ dueL b p o = if truthsOk xs = true then none else some ("truths" : Str) := by
  unfold dueW at h
  cases e1 : numV 0 1000 b with
  | false => rw [e1] at h; cases h
  | true =>
    rw [e1, if_pos rfl] at h
    cases e2 : numV 1 1000 p with
    | false => rw [e2] at h; cases h
    | true =>
      rw [e2, if_pos rfl] at h
      cases o with
      | none => cases h
      | some xs =>
        dsimp only at h
        by_cases l : xs.length = toN b + toN p
        · obtain ⟨bi, rfl, b0, b1⟩ := numV_is e1
          obtain ⟨pi, rfl, p0, p1⟩ := numV_is e2
          obtain ⟨bn, rfl⟩ := Int.eq_ofNat_of_zero_le b0
          obtain ⟨pn, rfl⟩ := Int.eq_ofNat_of_zero_le (show 0 ≤ pi by omega)
          refine ⟨bn, pn, xs, rfl, rfl, rfl, by omega, by omega, by omega, l, ?_⟩
          unfold dueL
          rw [if_pos e1, if_pos e2]
          dsimp only
          rw [if_pos l]
        · rw [if_neg l] at h; cases h
theorem dueL_of {bn pn : Nat} {bs : List Bool} (b1 : bn ≤ 1000) (p1 : pn ≤ 1000) (p0 : 1 ≤ pn) (l : bs.length = bn + pn) (z : bs[0]? = some true) : dueL (.int bn) (.int pn) (some (bs.map V.bl)) = none := by
  unfold dueL
  have e1 : numV 0 1000 (.int bn) = true := by unfold numV; simp; omega
  have e2 : numV 1 1000 (.int pn) = true := by unfold numV; simp; omega
  rw [if_pos e1, if_pos e2]
  dsimp only
  have l : (bs.map V.bl).length = toN (.int bn) + toN (.int pn) := by
    rw [List.length_map, l]
    rfl
  rw [if_pos l]
  have w : truthsOk (bs.map V.bl) = true := by
    unfold truthsOk
    rw [Bool.and_eq_true]
    refine ⟨?_, decide_eq_true (by rw [List.getElem?_map, z]; rfl)⟩
    rw [List.all_map, List.all_eq_true]
    intro n hn
    rfl
  rw [if_pos w]
/-! ### last tables -/
structure LasC (K : PySem.W.Frag) (C : Addr) : Prop where
  cl : Cls K C
  nBegin : PySem.W.findIn K (.ref C) "begin" = some none
  nPeriod : PySem.W.findIn K (.ref C) "period" = some none
  nTruths : PySem.W.findIn K (.ref C) "truths" = some none
def lfs (b p : Int) (t : Addr) : List (Str × V) := putF "truths" (.ref t) (putF "period" (.int p) (putF "begin" (.int b) []))
theorem lfs_b (b p : Int) (t : Addr) : (lfs b p t).lookup ("begin" : Str) = some (.int b) := rfl
theorem lfs_p (b p : Int) (t : Addr) : (lfs b p t).lookup ("period" : Str) = some (.int p) := rfl
theorem lfs_t (b p : Int) (t : Addr) : (lfs b p t).lookup ("truths" : Str) = some (.ref t) := rfl
def LasAt (CT : Addr) (H : Hp) (x : Addr) (b p : Nat) (bs : List Bool) : Prop := ∃ dx t, H x = some (.ins CT dx (lfs b p t)) ∧ H t = some (.tup (bs.map V.bl))
theorem LasAt.same {CT : Addr} {H H' : Hp} {x : Addr} {b p : Nat} {ns : List Bool} (h : LasAt CT H x b p ns) (s : Same H H') : LasAt CT H' x b p ns := let ⟨dx, t, a, c⟩ := h; ⟨dx, t, s _ _ a, s _ _ c⟩
theorem LasAt.ext {CT : Addr} {H H' : Hp} {x : Addr} {b p : Nat} {ns : List Bool} (h : LasAt CT H x b p ns) (s : LamX.ExtN H H') : LasAt CT H' x b p ns := let ⟨dx, t, a, c⟩ := h; ⟨dx, t, s _ _ a (fun _ z => nomatch z), s _ _ c (fun _ z => nomatch z)⟩
theorem LasAt.mvN {CT : Addr} {H H' : Hp} {x p q : Addr} {n b pe : Nat} {ns : List Bool} (h : LasAt CT H x b pe ns) (pen : PenAt n H p q) (m : MvN p H H') : LasAt CT H' x b pe ns := by
  obtain ⟨dx, t, a, c⟩ := h
  obtain ⟨xs, hp⟩ := pen.lst
  exact ⟨dx, t, m _ _ (fun z => by rw [z, hp] at a; cases a) a (fun _ z => nomatch z), m _ _ (fun z => by rw [z, hp] at c; cases c) c (fun _ z => nomatch z)⟩
theorem LasAt.mv {CT : Addr} {H H' : Hp} {x p q : Addr} {n b pe : Nat} {ns : List Bool} (h : LasAt CT H x b pe ns) (pen : PenAt n H p q) (m : Mv p H H') : LasAt CT H' x b pe ns := h.mvN pen m.toN
/-- LastTable.__init__ -/
def spLast (CB CT : Addr) : Sp := fun vs H Q E => ∃ (x dx : Addr) (b p v : V) (o : Option (List V)), vs = [.ref x, b, p, v] ∧ H x = some (.ins CT dx []) ∧ Kd H b ∧ Kd H p ∧ SeqOf H v o ∧ (∀ xs, o = some xs → xs.length ≤ 3000 ∧ ∀ y ∈ xs, Kd H y) ∧
  (∀ z H', dueL b p o = some z → Mv x H H' → BadE CB "part" (.str z) E H') ∧
  (dueL b p o = none → ∀ (bn pn : Nat) (ns : List Bool), b = .int bn → p = .int pn → o = some (ns.map V.bl) → ns.length = bn + pn → 1 ≤ pn → ∀ H' b' p', Form (atW (bz ns) bn pn) b' p' → b' + p' ≤ bn + pn → Mv x H H' → (∃ t, H' x = some (.ins CT dx (lfs b' p' t)) ∧ H' t = some (.tup ((boolsW ns bn pn (b' + p')).map V.bl))) → Q .non H')
/-- LastTable(a, n, row) that may not fail -/
theorem last_made {CB CT x dx l : Addr} {H : Hp} {a n : Nat} {row : List Bool} (hl : SeqAt2 H l (row.map V.bl)) (t : row.length = a + n) (n0 : 1 ≤ n) (z : row[0]? = some true) (a1 : a ≤ 1000) (n1 : n ≤ 1000) (hx : H x = none) (hd : H dx = none) {E : XK} {G : Hp → Prop}
    (hG : ∀ H' b p, Same H H' → Form (atW (bz row) a n) b p → b + p ≤ a + n → LasAt CT H' x b p (boolsW row a n (b + p)) → G H') : spLast CB CT [.ref x, .int a, .int n, .ref l] (upd (upd H dx (.own x)) x (.ins CT dx [])) (fun v H' => v = .non ∧ G H') E := by
  have up := up_made (C := CT) hx hd
  have due := dueL_of a1 n1 n0 t z
  refine ⟨x, dx, .int a, .int n, .ref l, some (row.map V.bl), rfl, upd_same, True.intro, True.intro, ⟨l, rfl, hl.same up⟩, fun xs e => ?_, fun z H' e _ => ?_, fun _ bn pn ns e1 e2 e3 told _ H' b p f le mv at_ => ⟨rfl, ?_⟩⟩
  · cases e
    refine ⟨by rw [List.length_map, t]; omega, fun y hy => ?_⟩
    obtain ⟨i, _, rfl⟩ := List.mem_map.mp hy
    exact True.intro
  · rw [due] at e
    cases e
  · have q1 : bn = a := by have := V.int.inj e1; omega
    have q2 : pn = n := by have := V.int.inj e2; omega
    have q3 : ns = row := ((List.map_inj_right fun _ _ h => V.bl.inj h).mp (Option.some.inj e3)).symm
    subst q1 q2 q3
    obtain ⟨t', h1, h2⟩ := at_
    exact hG H' b p (made_same hx hd mv) f le ⟨dx, t', h1, h2⟩
end Fz

set_option Elab.async false
set_option linter.all false
set_option maxRecDepth 100000
set_option maxHeartbeats 2000000
/-! Own layer: x[i] by the class's own __getitem__; truths by `is`; places in last tables (pure); the words of last tables. -/
namespace Fz
open PySem PySem.Spec PyProof.Rows L2
section
variable {X : Cx} {C f : Addr} {fd : FuncData} {ps : List Str} {sp : Sp} {k : Nat} {a b : Expr} {ta tb : TE} {E : XK} {CX : CXT} {pos : Pos}
/-- x[i], x an instance of C whose own def keeps sp -/
def tIxO (C : Addr) (sp : Sp) (E : XK) (ta tb : TE) : TE := fun σ H Q => ta σ H fun x H1 => tb σ H1 fun y H2 => ∃ (o dx : Addr) (fs : List (Str × V)), x = .ref o ∧ H2 o = some (.ins C dx fs) ∧ sp [x, y] H2 Q E
theorem fn_in {K : PySem.W.Frag} {n q : Str} {st : Stmt} {f : Addr} {fd : FuncData} (F : Fun K n q st f fd) : PySem.W.fnIn K f = true := by
  obtain ⟨oc, od, kV, doc, pm, an, cdv, ct, osl, rfl, lk, hcd⟩ := F.ex
  unfold PySem.W.fnIn
  rw [lk]
theorem pe_ixO (ha : PE X a ta) (hb : PE X b tb) (own : PySem.W.findIn X.K (.ref C) "__getitem__" = some (some (.ref f))) (fn : PySem.W.fnIn X.K f = true) (isF : PySem.W.isFn X.K (.ref f) = true)
    (F : FnOk X.prog X.w X.K X.mg X.base CX k f fd ps sp) (binds : L2.Binds X.K fd ps []) (room : Room (k + 1) X.A) (hx : Passes CX X E)
    (hs : ∀ o i, subscripted b true o i = runValue (.builtin "lifetime.subscript" ⟨[o, i], []⟩) := by intro _ _; rfl) : PE X (.Subscript a b pos) (tIxO C sp E ta tb) := by
  refine ⟨fun pins s σ H Q I h => ?_⟩
  refine Subscript_ (binT (R := fun x y H2 => ∃ (o dx : Addr) (fs : List (Str × V)), x = .ref o ∧ H2 o = some (.ins C dx fs) ∧ sp [x, y] H2 Q E) ha hb I h fun v u s2 x y H2 I2 rx ry ⟨o, dx, fs, ex, ho, q⟩ => ?_)
  subst ex
  cases (show v = Value.ref o from rx)
  obtain ⟨mA, O, _⟩ := ins_get I2.hok ho
  obtain ⟨od, J, _⟩ := O.look
  obtain ⟨m, hF⟩ := I2.fr
  have r2 : Vals [V.ref o, y] [Value.ref o, u] := .cons rfl (.cons ry .nil)
  have many : ([Value.ref o, u] ++ ([] : List Value)).length = ps.length := r2.length.symm.trans (F.len _ _ _ _ q)
  refine PySem.W.sub_K hF I2.ok.mod.kin J own fn isF ?_ (hs _ _)
  refine wpAny_call (codeAny_mono (F.run X.A.in1 X.stack s2 H2 ⟨[.ref o, u], []⟩ ([.ref o, u] ++ []) [.ref o, y] Q E room.in1 I2.env0.in1 (binds s2 [.ref o, u] I2.kIn many) r2 q) fun res s' got => ?_)
  match res, got with
  | .error e, got => exact hx pins σ H2 s2 e s' I2 got
  | .ok (.ret z), got => exact I2.after got
  | .ok .next, got => exact got.elim
  | .ok .brk, got => exact got.elim
  | .ok .cont, got => exact got.elim
/-- truths by `is` -/
def rIsB : R2 := fun x y H Q => ∃ c d : Bool, x = .bl c ∧ y = .bl d ∧ Q (.bl (c == d)) H
theorem op_isB : OpR X (compareOp .Is) rIsB := by
  intro pins s σ H x y v u Q I rx ry h
  obtain ⟨c, d, rfl, rfl, q⟩ := h
  cases rx
  cases ry
  have e : compareOp .Is (.bool c) (.bool d) = pure (.bool (c == d)) := by cases c <;> cases d <;> rfl
  rw [e]
  exact wpAny_pure ⟨.bl (c == d), H, I, rfl, q⟩
end
/-! ### places -/
theorem form_per {W : Nat → Int} {b p : Nat} (f : Form W b p) : ∀ k i, b ≤ i → W (i + p * k) = W i
  | 0, i, _ => by rw [Nat.mul_zero, Nat.add_zero]
  | k + 1, i, h => by rw [show i + p * (k + 1) = (i + p * k) + p by rw [Nat.mul_succ]; omega, f.per _ (by omega), form_per f k i h]
/-- the worth by the least form is the worth by the row that was told -/
theorem form_at {W : Nat → Int} {b p : Nat} (f : Form W b p) (h : Nat) : W (if h < b then h else b + (h - b) % p) = W h := by
  by_cases c : h < b
  · rw [if_pos c]
  · rw [if_neg c]
    have d := Nat.div_add_mod (h - b) p
    have q := form_per f ((h - b) / p) (b + (h - b) % p) (by omega)
    rw [← q]
    congr 1
    omega
theorem formB_at {row : List Bool} {a n b p : Nat} (f : Form (atW (bz row) a n) b p) (h : Nat) : atB (boolsW row a n (b + p)) b p h = atB row a n h := by
  have p1 := f.p1
  have l : (if h < b then h else b + (h - b) % p) < b + p := by
    by_cases c : h < b
    · rw [if_pos c]; omega
    · rw [if_neg c]
      have := Nat.mod_lt (h - b) (show p > 0 by omega)
      omega
  unfold atB
  rw [List.getD_eq_getElem?_getD, boolsW_at l]
  have q := form_at f h
  rw [atW_bz, atW_bz] at q
  exact zi_inj q
/-! ### words -/
def sgn (b : Bool) : Str := if b = true then "1" else "0"
def figs (bs : List Bool) : Str := Txt.join "" (bs.map sgn)
/-- the words of a last table -/
def lineL (b : Nat) (bs : List Bool) : Str := if 0 < b then cutS (figs bs) none (some (b : Int)) ++ " | " ++ cutS (figs bs) (some (b : Int)) none else "| " ++ figs bs
theorem sgn_len (b : Bool) : (sgn b).length = 1 := by cases b <;> decide +kernel
theorem sum_sgn (bs : List Bool) : ((bs.map sgn).map (·.length)).sum = bs.length := by
  induction bs with
  | nil => rfl
  | cons b r ih =>
    rw [List.map_cons, List.map_cons, List.sum_cons, ih, sgn_len, List.length_cons]
    omega
end Fz

set_option Elab.async false
set_option linter.all false
set_option maxRecDepth 100000
set_option maxHeartbeats 2000000
/-! Own layer: texts of rows, which differ; values with their data, apart from two lists that change. -/
namespace Fz
open PySem PySem.Spec PyProof.Rows L2
theorem tf_pre : ∀ (ts : List Str) (k : Nat) (acc : Str), ∃ z, TL.tl (textFrom k acc ts) = TL.tl acc ++ z
  | [], k, acc => ⟨[], by show TL.tl acc = _; rw [List.append_nil]⟩
  | t :: r, k, acc => by
    obtain ⟨z, e⟩ := tf_pre r (k + 1) (acc ++ (if k > 0 then ", " else "" : String) ++ t)
    refine ⟨TL.tl ((if k > 0 then ", " else "" : String) : Str) ++ (TL.tl t ++ z), ?_⟩
    show TL.tl (textFrom (k + 1) (acc ++ (if k > 0 then ", " else "" : String) ++ t) r) = _
    rw [e, TL.tl_append, TL.tl_append, List.append_assoc, List.append_assoc]
theorem tf_len : ∀ (ts : List Str) (k : Nat) (acc : Str), (textFrom (k + 1) acc ts).length = acc.length + (ts.map (·.length)).sum + 2 * ts.length
  | [], k, acc => by show acc.length = _; simp
  | t :: r, k, acc => by
    have e := tf_len r (k + 1) (acc ++ (if k + 1 > 0 then ", " else "" : String) ++ t)
    show (textFrom (k + 1 + 1) (acc ++ (if k + 1 > 0 then ", " else "" : String) ++ t) r).length = _
    rw [e, strLen_append, strLen_append, List.map_cons, List.sum_cons, List.length_cons]
    have z : ((if k + 1 > 0 then ", " else "" : String) : Str).length = 2 := by
      rw [if_pos (by omega)]
      decide +kernel
    rw [z]
    omega
theorem lt_cons (t : Str) (r : List Str) : (listText (t :: r)).length = 2 + t.length + (r.map (·.length)).sum + 2 * r.length := by
  show (textFrom 1 (Str.ofString "[" ++ (if (0 : Nat) > 0 then ", " else "" : String) ++ t) r ++ Str.ofString "]").length = _
  rw [strLen_append, tf_len, strLen_append, strLen_append, if_neg (by omega)]
  have z1 : (Str.ofString "[").length = 1 := by decide +kernel
  have z2 : (Str.ofString "]").length = 1 := by decide +kernel
  have z3 : (Str.ofString "").length = 0 := by decide +kernel
  rw [z1, z2, z3]
  omega
theorem lt_nil : (listText []).length = 2 := by decide +kernel
theorem lt_pre (t : Str) (r : List Str) : ∃ z, TL.tl (listText (t :: r)) = 91 :: (TL.tl t ++ z) := by
  obtain ⟨z, e⟩ := tf_pre r 1 (Str.ofString "[" ++ (if (0 : Nat) > 0 then ", " else "" : String) ++ t)
  refine ⟨z ++ TL.tl (Str.ofString "]"), ?_⟩
  show TL.tl (textFrom 1 (Str.ofString "[" ++ (if (0 : Nat) > 0 then ", " else "" : String) ++ t) r ++ Str.ofString "]") = _
  rw [TL.tl_append, e, TL.tl_append, TL.tl_append, if_neg (by omega)]
  rw [show TL.tl (Str.ofString "[") = [91] from by decide +kernel, show TL.tl (Str.ofString "") = [] from by decide +kernel]
  simp
/-- the data of a row -/
def rowD (bs : List Bool) : PyData := .list (bs.map PyData.bool)
theorem rowD_shown (bs : List Bool) : (rowD bs).shown = listText (bs.map fun b => PyData.shown (.bool b)) := by
  unfold rowD
  rw [PyData.shown, shownAll_bools]
theorem tl_T : TL.tl (PyData.shown (.bool true)) = [84, 114, 117, 101] := by decide +kernel
theorem tl_F : TL.tl (PyData.shown (.bool false)) = [70, 97, 108, 115, 101] := by decide +kernel
/-- a row that begins with True: its text -/
theorem row_tl (bs : List Bool) : ∃ z, TL.tl (rowD (true :: bs)).shown = 91 :: 84 :: z := by
  rw [rowD_shown, List.map_cons]
  obtain ⟨z, e⟩ := lt_pre (PyData.shown (.bool true)) (bs.map fun b => PyData.shown (.bool b))
  rw [e, tl_T]
  exact ⟨_, rfl⟩
theorem row_ne {bs : List Bool} {d : PyData} {x y : Nat} {z : List Nat} (e : TL.tl d.shown = x :: y :: z) (n : x ≠ 91 ∨ y ≠ 84) : d.shown ≠ (rowD (true :: bs)).shown := fun h => by
  obtain ⟨w, q⟩ := row_tl bs
  rw [← h, e] at q
  cases q
  rcases n with n | n <;> exact n rfl
theorem row_len (bs : List Bool) : (rowD bs).shown.length = if bs = [] then 2 else 2 + ((bs.map fun b => PyData.shown (.bool b)).map (·.length)).sum + 2 * (bs.length - 1) := by
  rw [rowD_shown]
  cases bs with
  | nil => exact lt_nil
  | cons b r =>
    rw [List.map_cons, lt_cons, if_neg (by simp), List.map_cons, List.sum_cons, List.length_map, List.length_cons]
    omega
theorem row_less (b : Bool) (bs : List Bool) : (rowD bs).shown.length < (rowD (b :: bs)).shown.length := by
  rw [row_len, row_len, if_neg (by simp : ¬ (b :: bs) = []), List.map_cons, List.map_cons, List.sum_cons, List.length_cons]
  by_cases h : bs = []
  · rw [if_pos h, h]
    cases b <;> decide +kernel
  · rw [if_neg h]
    have l : 0 < bs.length := List.length_pos_iff.mpr h
    omega
theorem row_more (b : Bool) (bs : List Bool) : (rowD bs).shown.length < (rowD (bs ++ [b])).shown.length := by
  rw [row_len, row_len, if_neg (by simp : ¬ (bs ++ [b]) = []), List.map_append, List.map_append, List.sum_append, List.length_append]
  by_cases h : bs = []
  · rw [if_pos h, h]
    cases b <;> decide +kernel
  · rw [if_neg h]
    have l : 0 < bs.length := List.length_pos_iff.mpr h
    show _ < 2 + (_ + _) + 2 * (bs.length + 1 - 1)
    omega
/-! ### values -/
inductive Flat1 : V → PyData → Prop
  | non : Flat1 .non .none
  | bl (b : Bool) : Flat1 (.bl b) (.bool b)
  | int (i : Int) : Flat1 (.int i) (.int i)
  | str (z : Str) : Flat1 (.str z) (.str z)
inductive Flats : List V → List PyData → Prop
  | nil : Flats [] []
  | cons {x : V} {d : PyData} {xs : List V} {ds : List PyData} : Flat1 x d → Flats xs ds → Flats (x :: xs) (d :: ds)
theorem Flat1.dp {K : PySem.W.Frag} {H : Hp} {x : V} {d : PyData} (h : Flat1 x d) : Dp K H x d := by
  cases h with
  | non => exact .non
  | bl b => exact .bl b
  | int i => exact .int i
  | str z => exact .str z
theorem Flat1.kd {H : Hp} {x : V} {d : PyData} (h : Flat1 x d) : Kd H x := by cases h <;> exact True.intro
theorem Flat1.no {x : V} {d : PyData} (h : Flat1 x d) : d.hasDict = false := by cases h <;> rfl
theorem Flats.dp {K : PySem.W.Frag} {H : Hp} {xs : List V} {ds : List PyData} (h : Flats xs ds) : DpAll K H xs ds := by
  induction h with
  | nil => exact .nil
  | cons a _ ih => exact .cons a.dp ih
theorem Flats.kd {H : Hp} {xs : List V} {ds : List PyData} (h : Flats xs ds) : ∀ y ∈ xs, Kd H y := by
  induction h with
  | nil => exact fun _ z => nomatch z
  | cons a _ ih =>
    intro y hy
    rcases List.mem_cons.mp hy with rfl | hy
    · exact a.kd
    · exact ih y hy
theorem Flats.no {xs : List V} {ds : List PyData} (h : Flats xs ds) : PyData.hasDictAll ds = false := by
  induction h with
  | nil => rfl
  | cons a _ ih => simp only [PyData.hasDictAll, a.no, ih, Bool.or_self]
theorem flats_bools : ∀ bs : List Bool, Flats (bs.map V.bl) (bs.map PyData.bool)
  | [] => .nil
  | b :: r => .cons (.bl b) (flats_bools r)
theorem Flats.app {xs ys : List V} {ds es : List PyData} (h : Flats xs ds) (g : Flats ys es) : Flats (xs ++ ys) (ds ++ es) := by
  induction h with
  | nil => exact g
  | cons a _ ih => exact .cons a ih
/-- a value, its data, its items if it is a list or a tuple; at neither p nor q -/
inductive Val (p q : Addr) (H : Hp) : V → PyData → Option (List V) → Prop
  | one {x : V} {d : PyData} : Flat1 x d → Val p q H x d none
  | lst {l : Addr} {xs : List V} {ds : List PyData} : l ≠ p → l ≠ q → H l = some (.lst xs) → Flats xs ds → Val p q H (.ref l) (.list ds) (some xs)
  | tup {l : Addr} {xs : List V} {ds : List PyData} : l ≠ p → l ≠ q → H l = some (.tup xs) → Flats xs ds → Val p q H (.ref l) (.tuple ds) (some xs)
  | dic {l : Addr} : l ≠ p → l ≠ q → H l = some (.dK []) → Val p q H (.ref l) (.dict []) none
/-- all but what lies at p and q and the tables of code is as it was -/
def MvTwo (p q : Addr) (H H' : Hp) : Prop := ∀ b o, b ≠ p → b ≠ q → H b = some o → (∀ ps, o ≠ .tbl ps) → H' b = some o
theorem MvTwo.trans {p q : Addr} {H H1 H2 : Hp} (a : MvTwo p q H H1) (b : MvTwo p q H1 H2) : MvTwo p q H H2 := fun c o n m z t => b c o n m (a c o n m z t) t
theorem MvN.two {p q : Addr} {H H' : Hp} (m : MvN p H H') : MvTwo p q H H' := fun b o n _ z t => m b o n z t
theorem mvTwo_up {p q : Addr} {H : Hp} {o : HO} : MvTwo p q H (upd H q o) := fun b u _ n z _ => by rw [upd_ne n]; exact z
theorem Val.mv {p q : Addr} {H H' : Hp} {v : V} {d : PyData} {o : Option (List V)} (h : Val p q H v d o) (m : MvTwo p q H H') : Val p q H' v d o := by
  cases h with
  | one f => exact .one f
  | lst a b c f => exact .lst a b (m _ _ a b c fun _ z => nomatch z) f
  | tup a b c f => exact .tup a b (m _ _ a b c fun _ z => nomatch z) f
  | dic a b c => exact .dic a b (m _ _ a b c fun _ z => nomatch z)
theorem Val.kd {p q : Addr} {H : Hp} {v : V} {d : PyData} {o : Option (List V)} (h : Val p q H v d o) : Kd H v := by
  cases h with
  | one f => exact f.kd
  | lst a b c f => exact .inr (.inl ⟨_, c⟩)
  | tup a b c f => exact .inl ⟨_, c⟩
  | dic a b c => exact .inr (.inr ⟨_, c⟩)
theorem Val.rep {K : PySem.W.Frag} {p q : Addr} {H : Hp} {v : V} {d : PyData} {o : Option (List V)} (h : Val p q H v d o) : RepData K H v d := by
  cases h with
  | one f => exact .inl ⟨f.dp, f.no⟩
  | lst a b c f => exact .inl ⟨Dp.lst (SqL.of c) f.dp, by rw [PyData.hasDict]; exact f.no⟩
  | tup a b c f => exact .inl ⟨Dp.tup (SqT.of c) f.dp, by rw [PyData.hasDict]; exact f.no⟩
  | dic a b c => exact .inr ⟨_, rfl, c, rfl⟩
theorem Val.seq {p q : Addr} {H : Hp} {v : V} {d : PyData} {o : Option (List V)} (h : Val p q H v d o) : SeqOf H v o ∧ ∀ xs, o = some xs → ∀ y ∈ xs, Kd H y := by
  cases h with
  | one f => exact ⟨⟨f.kd, fun l e => by subst e; cases f⟩, fun _ e => nomatch e⟩
  | lst a b c f => exact ⟨⟨_, rfl, .inl c⟩, fun xs e => by cases e; exact f.kd⟩
  | tup a b c f => exact ⟨⟨_, rfl, .inr c⟩, fun xs e => by cases e; exact f.kd⟩
  | dic a b c => exact ⟨⟨.inr (.inr ⟨_, c⟩), fun l e => by cases e; exact ⟨_, c⟩⟩, fun _ e => nomatch e⟩
/-- data that can be shown -/
structure FineD (d : PyData) : Prop where
  show_ : d.showable = true
  deep : d.depth ≤ 60
  len : d.shown.length ≤ sizeLine
/-- a wrong value in the place of one with the data e -/
def WrongV (p q : Addr) (e : PyData) (bad : V → Option (List V) → Prop) (H : Hp) (v : V) : Prop := ∃ d o, Val p q H v d o ∧ d.shown ≠ e.shown ∧ bad v o ∧ FineD d
theorem WrongV.mv {p q : Addr} {e : PyData} {bad : V → Option (List V) → Prop} {H H' : Hp} {v : V} (h : WrongV p q e bad H v) (m : MvTwo p q H H') : WrongV p q e bad H' v := let ⟨d, o, a, r⟩ := h; ⟨d, o, a.mv m, r⟩
/-- rows of truths, at most with one odd item, can be shown -/
theorem fine_list {ds : List PyData} (h : ∀ d ∈ ds, d.showable = true ∧ d.depth ≤ 10 ∧ d.shown.length ≤ 5) (few : ds.length ≤ 1000) : FineD (.list ds) ∧ FineD (.tuple ds) := by
  have sh : PyData.showableAll ds = true := by
    induction ds with
    | nil => rfl
    | cons d r ih => simp only [PyData.showableAll, (h d List.mem_cons_self).1, ih (fun e he => h e (List.mem_cons_of_mem _ he)) (by rw [List.length_cons] at few; omega), Bool.and_self]
  have dp : PyData.depthAll ds ≤ 11 := by
    clear sh
    induction ds with
    | nil => simp [PyData.depthAll]
    | cons d r ih =>
      have a := (h d List.mem_cons_self).2.1
      have b := ih (fun e he => h e (List.mem_cons_of_mem _ he)) (by rw [List.length_cons] at few; omega)
      simp only [PyData.depthAll]
      omega
  have ln : ∀ t ∈ PyData.shownAll ds, t.length ≤ 5 := by
    clear sh dp
    induction ds with
    | nil => intro t ht; simp [PyData.shownAll] at ht
    | cons d r ih =>
      intro t ht
      simp only [PyData.shownAll, List.mem_cons] at ht
      rcases ht with rfl | ht
      · exact (h d List.mem_cons_self).2.2
      · exact ih (fun e he => h e (List.mem_cons_of_mem _ he)) (by rw [List.length_cons] at few; omega) t ht
  have sl : (PyData.shownAll ds).length = ds.length := shownAll_len ds
  refine ⟨⟨by rw [PyData.showable]; exact sh, by simp only [PyData.depth]; omega, by rw [PyData.shown]; exact text_from ln (by rw [sl]; omega)⟩, ⟨by rw [PyData.showable]; exact sh, by simp only [PyData.depth]; omega, ?_⟩⟩
  have q : (PyData.tuple ds).shown = tupleText (PyData.shownAll ds) := by simp [PyData.shown]
  rw [q]
  have c1 : ("(" : Str).length = 1 := by decide +kernel
  have c2 : (", " : Str).length = 2 := by decide +kernel
  have e := TL.tl_join (", " : Str) (PyData.shownAll ds)
  have l2 : (TL.tl (", " : Str)).length = 2 := by rw [← TL.len_tl, c2]
  have jl := joinL_len (TL.tl (", " : Str)) 5 ((PyData.shownAll ds).map TL.tl) fun p hp => by
    obtain ⟨t, ht, rfl⟩ := List.mem_map.mp hp
    rw [← TL.len_tl]
    exact ln t ht
  rw [← e, ← TL.len_tl, List.length_map, l2, sl] at jl
  have ends : ∀ b : Bool, (if b = true then (",)" : Str) else (")" : Str)).length ≤ 2 := by decide +kernel
  have en := ends ((PyData.shownAll ds).length == 1)
  have ej : (((if ((PyData.shownAll ds).length == 1) = true then ",)" else ")" : String)) : Str) = (if ((PyData.shownAll ds).length == 1) = true then (",)" : Str) else (")" : Str)) := by
    cases ((PyData.shownAll ds).length == 1) <;> rfl
  unfold tupleText
  rw [ej, strLen_append, strLen_append, c1]
  have sz : sizeLine = 16777216 := rfl
  omega
theorem short_bool (b : Bool) : (PyData.bool b).showable = true ∧ (PyData.bool b).depth ≤ 10 ∧ (PyData.bool b).shown.length ≤ 5 := by
  cases b
  · exact ⟨rfl, by decide, by decide +kernel⟩
  · exact ⟨rfl, by decide, by decide +kernel⟩
theorem short_01 : (∀ d ∈ [PyData.int 0, .int 1], d.showable = true ∧ d.depth ≤ 10 ∧ d.shown.length ≤ 5) := fun d hd => by
  simp only [List.mem_cons, List.not_mem_nil, or_false] at hd
  rcases hd with rfl | rfl
  · exact ⟨by decide +kernel, by decide, by decide +kernel⟩
  · exact ⟨by decide +kernel, by decide, by decide +kernel⟩
end Fz

set_option Elab.async false
set_option linter.all false
set_option maxRecDepth 100000
set_option maxHeartbeats 2000000
/-! Own layer: x in y by y's own __contains__; bool of an instance by its own __bool__; any of a tuple. -/
namespace Fz
open PySem PySem.Spec PyProof.Rows L2
section
variable {X : Cx} {C f : Addr} {fd : FuncData} {ps : List Str} {sp : Sp} {k : Nat}
/-- x in y, y an instance of C -/
def rInO (C : Addr) (sp : Sp) : R2 := fun x y H Q => ∃ (a dx : Addr) (fs : List (Str × V)), y = .ref a ∧ H a = some (.ins C dx fs) ∧ sp [y, x] H (fun z H' => ∃ c, z = .bl c ∧ Q (.bl c) H') E0
theorem op_inO (own : PySem.W.findIn X.K (.ref C) "__contains__" = some (some (.ref f))) (isF : PySem.W.isFn X.K (.ref f) = true) (F : FnOk X.prog X.w X.K X.mg X.base CX0 k f fd ps sp) (binds : L2.Binds X.K fd ps []) (room : Room k X.A) : OpR X (compareOp .In) (rInO C sp) := by
  intro pins s σ H x y v u Q I rx ry h
  obtain ⟨a, dx, fs, rfl, ha, q⟩ := h
  cases (show u = Value.ref a from ry)
  obtain ⟨mA, O, _⟩ := ins_get I.hok ha
  obtain ⟨od, J, _⟩ := O.look
  obtain ⟨m, hF⟩ := I.fr
  refine PySem.W.in_K hF I.ok.mod.kin J own isF ?_
  refine wpAny_mono (run_fn (us := [.ref a, v]) (vs := [.ref a, x]) F room binds .nil pass0 I (.cons rfl (.cons rx .nil)) q) (fun w s' z => ?_) fun _ _ z => z
  obtain ⟨z', H', I', rz, c, rfl, qz⟩ := z
  cases (show w = Value.bool c from rz)
  exact wpAny_truthy_bool ⟨.bl c, H', I', rfl, qz⟩
/-- any(t), t a tuple of truths -/
def rAnyT (K : PySem.W.Frag) : List V → Hp → VK → Prop := fun vs H Q => ∃ (a : Addr) (bs : List Bool), vs = [V.ref a] ∧ SqT K H a (bs.map V.bl) ∧ Q (.bl (bs.any id)) H
theorem any_bools : ∀ bs : List Bool, (bs.map PyData.bool).any PyData.truthy = bs.any id
  | [] => rfl
  | b :: r => by rw [List.map_cons, List.any_cons, List.any_cons, any_bools r]; rfl
theorem plain_bools : ∀ bs : List Bool, PyData.plainAll (bs.map PyData.bool) = true
  | [] => by simp [PyData.plainAll]
  | b :: r => by simp [PyData.plainAll, PyData.plain, plain_bools r]
theorem cr_anyT (hc : X.calm = true) : CallR X (.builtin "any") (rAnyT X.K) := by
  intro pins s σ H vs us Q I r h
  obtain ⟨a, bs, rfl, hs, q⟩ := h
  obtain ⟨its, rv, hl, _⟩ := I.tuple hs
  rw [Vals.ref1 r]
  obtain ⟨as, rd⟩ := Dp.reads I _ _ (.ref a) (Dp.tup hs (dp_bools bs)) rfl
  cases rd with
  | tuple h1 h2 h3 h4 =>
    refine PySem.W.any_tuple_data (I.ok.hd hc) ⟨_, h1, h2, _, h3⟩ h4 (plain_bools bs) (fun x hx => ?_) fun h' tk hk => ?_
    · obtain ⟨b, _, rfl⟩ := List.mem_map.mp hx
      exact True.intro
    · rw [any_bools]
      exact ⟨.bl _, H, I.kept fun b o eo => hk _ _ eo, rfl, q⟩
end
section
variable {prog : Program} {w : World} {A : Around} {E : Value → Shared → Prop} {s : Shared} {K : PySem.W.Frag} {x C f : Addr} {ox : Obj} {od : Option Obj}
theorem kbo_call {Q : Value → Shared → Prop} (X : K.In s.heap) (I : PySem.W.InstAt s.heap x ox C od) (hs : PySem.W.findIn K (.ref C) "__bool__" = some (some (.ref f))) (hf : PySem.W.isFn K (.ref f) = true)
    (h : wpAny (model prog w) A.in1.in1 (call (.ref f) [.ref x]) (fun v s' => ∃ b, v = .bool b ∧ Q (.bool b) s') E s) : wpAny (model prog w) A (call (.type "bool") [.ref x]) Q E s := by
  refine callType_codes (T := "bool") (Bi := Builtin.«object.__init__») (Q₁ := fun r s₁ => ∃ b, r = .bool b ∧ Q r s₁) PySem.F.called_bool (PySem.F.typeCall_bool_1 _) PySem.F.entry_object_init ?_ ?_
  · refine codeAny_of_tree ?_
    show wpAny _ A.in1.in1 (do checkBuiltinCall "bool.__new__" ⟨[.type "bool", .ref x], []⟩; again (.builtin "bool.__new__" ⟨[.type "bool", .ref x], []⟩)) _ _ s
    refine wpAny_bind (wpAny_of_eq (PySem.F.newCall_bool_1 _) (wpAny_pure ⟨plainId_quiet (by decide +kernel) _, codeAny_builtin PySem.F.entry_bool_new ?_⟩))
    rw [Around.under_plainId (by decide +kernel) _]
    unfold Builtin.«bool.__new__»
    dsimp only
    have f1 := PySem.F.conv_sub_bool
    refine wpAny_bind (wpAny_pure ?_)
    refine wpAny_bind (wpAny_of_eq f1 ?_)
    refine wpAny_bind (wpAny_pure ?_)
    dsimp only
    refine wpAny_bind ?_
    unfold truthy
    refine wpAny_bind (m := callSpecial? (.ref x) (Str.ofString "__bool__")) (PySem.W.special_fn X I hs (beq_iff_eq.mp hf) (wpAny_mono h (fun r s' hr => ?_) fun _ _ y => y))
    obtain ⟨b, rfl, q⟩ := hr
    exact wpAny_pure (wpAny_pure ⟨b, rfl, q⟩)
  · rintro obj s₁ ⟨b, rfl, hq⟩
    exact ⟨PySem.typeIs_bool _ _, PySem.F.args_object_init_2 _ _, object_init_meets PySem.F.called_bool.init.lookup PySem.F.called_bool.made (by decide +kernel) prog w A.in1 _ s₁ ⟨PySem.typeIs_bool _ _, rfl, hq⟩⟩
end
section
variable {X : Cx} {C f : Addr} {fd : FuncData} {ps : List Str} {sp : Sp} {k : Nat}
/-- bool(x) of an instance -/
def rBoolO (C : Addr) (sp : Sp) : List V → Hp → VK → Prop := fun vs H Q => ∃ (a dx : Addr) (fs : List (Str × V)), vs = [.ref a] ∧ H a = some (.ins C dx fs) ∧ sp [.ref a] H (fun z H' => ∃ c, z = .bl c ∧ Q (.bl c) H') E0
theorem call_boolO (own : PySem.W.findIn X.K (.ref C) "__bool__" = some (some (.ref f))) (isF : PySem.W.isFn X.K (.ref f) = true) (F : FnOk X.prog X.w X.K X.mg X.base CX0 k f fd ps sp) (binds : L2.Binds X.K fd ps []) (room : Room (k + 2) X.A) : CallR X (.type "bool") (rBoolO C sp) := by
  intro pins s σ H vs us Q I rvs h
  obtain ⟨a, dx, fs, rfl, ha, q⟩ := h
  obtain ⟨u, rfl, ru⟩ := vals1 rvs
  cases ru
  obtain ⟨mA, O, _⟩ := ins_get I.hok ha
  obtain ⟨od, J, _⟩ := O.look
  have r2 : Vals [V.ref a] [Value.ref a] := .cons rfl .nil
  have many : ([Value.ref a] ++ ([] : List Value)).length = ps.length := r2.length.symm.trans (F.len _ _ _ _ q)
  have room2 : Room k X.A.in1.in1 := (show Room (k + 1) X.A.in1 from Room.in1 room).in1
  refine kbo_call I.kIn J own isF ?_
  refine wpAny_call (codeAny_mono (F.run X.A.in1.in1 X.stack s H ⟨[.ref a], []⟩ ([.ref a] ++ []) [.ref a] _ E0 room2 I.env0.in1.in1 (binds s [.ref a] I.kIn many) r2 q) fun res s' got => ?_)
  match res, got with
  | .error e, got => exact got.elim
  | .ok (.ret z), got =>
    obtain ⟨z', H', I', rz, c, rfl, qz⟩ := I.after got
    cases (show z = Value.bool c from rz)
    exact ⟨c, rfl, .bl c, H', I', rfl, qz⟩
  | .ok .next, got => exact got.elim
  | .ok .brk, got => exact got.elim
  | .ok .cont, got => exact got.elim
end
end Fz

set_option Elab.async false
set_option linter.all false
set_option maxRecDepth 100000
set_option maxHeartbeats 2000000
/-! Own layer: size sets as objects; what comes again behind some place (pure); their words. -/
namespace Fz
open PySem PySem.Spec PyProof.Rows L2
structure SizC (K : PySem.W.Frag) (C : Addr) : Prop where
  cl : Cls K C
  nAhead : PySem.W.findIn K (.ref C) "ahead" = some none
  nAgain : PySem.W.findIn K (.ref C) "again" = some none
def sfs (t u : Addr) : List (Str × V) := putF "again" (.ref u) (putF "ahead" (.ref t) [])
theorem sfs_a (t u : Addr) : (sfs t u).lookup ("ahead" : Str) = some (.ref t) := rfl
theorem sfs_g (t u : Addr) : (sfs t u).lookup ("again" : Str) = some (.ref u) := rfl
def SizAt (CS : Addr) (H : Hp) (x : Addr) (xs gs : List Bool) : Prop := ∃ dx t u, H x = some (.ins CS dx (sfs t u)) ∧ H t = some (.tup (xs.map V.bl)) ∧ H u = some (.tup (gs.map V.bl))
theorem SizAt.same {CS : Addr} {H H' : Hp} {x : Addr} {xs gs : List Bool} (h : SizAt CS H x xs gs) (s : Same H H') : SizAt CS H' x xs gs := let ⟨dx, t, u, a, b, c⟩ := h; ⟨dx, t, u, s _ _ a, s _ _ b, s _ _ c⟩
theorem SizAt.put {CS : Addr} {H : Hp} {x l : Addr} {o : HO} {xs gs : List Bool} {ys : List V} (h : SizAt CS H x xs gs) (hl : H l = some (.lst ys)) : SizAt CS (upd H l o) x xs gs := by
  obtain ⟨dx, t, u, a, b, c⟩ := h
  exact ⟨dx, t, u, by rw [upd_ne fun z => by rw [z, hl] at a; cases a]; exact a, by rw [upd_ne fun z => by rw [z, hl] at b; cases b]; exact b, by rw [upd_ne fun z => by rw [z, hl] at c; cases c]; exact c⟩
theorem SizAt.mv {CS : Addr} {H H' : Hp} {x p q : Addr} {n : Nat} {xs gs : List Bool} (h : SizAt CS H x xs gs) (pen : PenAt n H p q) (m : Mv p H H') : SizAt CS H' x xs gs := by
  obtain ⟨dx, t, u, a, b, c⟩ := h
  obtain ⟨zs, hp⟩ := pen.lst
  exact ⟨dx, t, u, m _ _ (fun z => by rw [z, hp] at a; cases a) a, m _ _ (fun z => by rw [z, hp] at b; cases b) b, m _ _ (fun z => by rw [z, hp] at c; cases c) c⟩
/-- the part that comes again -/
def ringW (row : List Bool) (a n b p : Nat) : List Bool := (boolsW row a n (b + p)).drop b
def winW (row : List Bool) (a n k p : Nat) : List Bool := (List.range p).map fun i => atB row a n (k + i)
theorem ring_win (row : List Bool) (a n b p : Nat) : ringW row a n b p = winW row a n b p := by
  unfold ringW winW boolsW
  apply List.ext_getElem?
  intro i
  rw [List.getElem?_drop, List.getElem?_map, List.getElem?_map]
  by_cases h : i < p
  · rw [List.getElem?_range h, List.getElem?_range (by omega)]
    rfl
  · rw [List.getElem?_eq_none (by rw [List.length_range]; omega), List.getElem?_eq_none (by rw [List.length_range]; omega)]
    rfl
theorem ring_len (row : List Bool) (a n b p : Nat) : (ringW row a n b p).length = p := by
  unfold ringW
  rw [List.length_drop, boolsW_len]
  omega
theorem win_len (row : List Bool) (a n k p : Nat) : (winW row a n k p).length = p := by unfold winW; rw [List.length_map, List.length_range]
theorem win_at {row : List Bool} {a n k p i : Nat} (h : i < p) : (winW row a n k p)[i]? = some (atB row a n (k + i)) := by
  unfold winW
  rw [List.getElem?_map, List.getElem?_range h]
  rfl
theorem bools_ring (row : List Bool) (a n b p : Nat) : boolsW row a n b ++ ringW row a n b p = boolsW row a n (b + p) := by
  unfold ringW
  rw [← boolsW_take (show b ≤ b + p by omega), List.take_append_drop]
/-- a step back of the window -/
theorem win_back {row : List Bool} {a n k p : Nat} (k0 : 0 < k) (p1 : 1 ≤ p) (e : atB row a n (k - 1) = atB row a n (k - 1 + p)) : [atB row a n (k - 1 + p)] ++ (winW row a n k p).take (p - 1) = winW row a n (k - 1) p := by
  apply List.ext_getElem?
  intro i
  by_cases h0 : i = 0
  · subst h0
    rw [win_at (by omega), ← e]
    rfl
  · rw [List.getElem?_append_right (by show 1 ≤ i; omega)]
    show ((winW row a n k p).take (p - 1))[i - 1]? = _
    by_cases h : i < p
    · rw [List.getElem?_take_of_lt (by omega), win_at (by omega), win_at h, show k + (i - 1) = k - 1 + i by omega]
    · rw [List.getElem?_eq_none (by rw [List.length_take, win_len]; omega), List.getElem?_eq_none (by rw [win_len]; omega)]
/-- whether a size is in it, by its place from 0 on -/
def sizB (xs gs : List Bool) (h : Nat) : Bool := if h < xs.length then xs.getD h false else gs.getD ((h - xs.length) % gs.length) false
theorem sizB_app {xs gs : List Bool} (g1 : 1 ≤ gs.length) (h : Nat) : sizB xs gs h = atB (xs ++ gs) xs.length gs.length h := by
  unfold sizB atB
  by_cases c : h < xs.length
  · rw [if_pos c, if_pos c, List.getD_eq_getElem?_getD, List.getD_eq_getElem?_getD, List.getElem?_append_left c]
  · rw [if_neg c, if_neg c, List.getD_eq_getElem?_getD, List.getD_eq_getElem?_getD, List.getElem?_append_right (by omega)]
    congr 2
    omega
theorem siz_form {row : List Bool} {a n b p : Nat} (f : Form (atW (bz row) a n) b p) (h : Nat) : sizB (boolsW row a n b) (ringW row a n b p) h = atB row a n h := by
  have p1 := f.p1
  rw [sizB_app (by rw [ring_len]; exact p1), bools_ring, boolsW_len, ring_len, formB_at f]
/-- told once more, a least form stays -/
theorem again_W {row : List Bool} {a n b p : Nat} (f : Form (atW (bz row) a n) b p) : atW (bz (boolsW row a n b ++ ringW row a n b p)) (boolsW row a n b).length (ringW row a n b p).length = atW (bz row) a n := funext fun h => by
  rw [bools_ring, boolsW_len, ring_len, atW_bz, atW_bz, formB_at f]
theorem boolsW_congr {row row' : List Bool} {a n a' n' k : Nat} (h : ∀ i, atB row a n i = atB row' a' n' i) : boolsW row a n k = boolsW row' a' n' k := by
  unfold boolsW
  exact List.map_congr_left fun i _ => h i
theorem atB_of_W {row row' : List Bool} {a n a' n' : Nat} (h : atW (bz row) a n = atW (bz row') a' n') (i : Nat) : atB row a n i = atB row' a' n' i := zi_inj (by rw [← atW_bz, ← atW_bz, h])
theorem ringW_congr {row row' : List Bool} {a n a' n' b p : Nat} (h : ∀ i, atB row a n i = atB row' a' n' i) : ringW row a n b p = ringW row' a' n' b p := by
  unfold ringW
  rw [boolsW_congr h]
/-- Sizes.__init__ -/
def spSizes (CS : Addr) : Sp := fun vs H Q _ => ∃ (x dx l1 l2 : Addr) (t1 t2 : Bool) (as gs : List Bool), vs = [.ref x, .ref l1, .ref l2] ∧ H x = some (.ins CS dx []) ∧ SqB t1 H l1 (as.map V.bl) ∧ SqB t2 H l2 (gs.map V.bl) ∧ 1 ≤ gs.length ∧ as.length + gs.length ≤ 1000 ∧
  ∀ H' b p t u, Form (atW (bz (as ++ gs)) as.length gs.length) b p → b + p ≤ as.length + gs.length → Mv x H H' → H' x = some (.ins CS dx (sfs t u)) → H' t = some (.tup ((boolsW (as ++ gs) as.length gs.length b).map V.bl)) → H' u = some (.tup ((ringW (as ++ gs) as.length gs.length b p).map V.bl)) → Q .non H'
theorem sizes_made {CS x dx l1 l2 : Addr} {H : Hp} {t1 t2 : Bool} {as gs : List Bool} (h1 : SqB t1 H l1 (as.map V.bl)) (h2 : SqB t2 H l2 (gs.map V.bl)) (g1 : 1 ≤ gs.length) (few : as.length + gs.length ≤ 1000) (hx : H x = none) (hd : H dx = none) {E : XK} {G : Hp → Prop}
    (hG : ∀ H' b p, Same H H' → Form (atW (bz (as ++ gs)) as.length gs.length) b p → b + p ≤ as.length + gs.length → SizAt CS H' x (boolsW (as ++ gs) as.length gs.length b) (ringW (as ++ gs) as.length gs.length b p) → G H') : spSizes CS [.ref x, .ref l1, .ref l2] (upd (upd H dx (.own x)) x (.ins CS dx [])) (fun v H' => v = .non ∧ G H') E := by
  have up := up_made (C := CS) hx hd
  exact ⟨x, dx, l1, l2, t1, t2, as, gs, rfl, upd_same, h1.same up, h2.same up, g1, few, fun H' b p t u f le mv a b' c => ⟨rfl, hG H' b p (made_same hx hd mv) f le ⟨dx, t, u, a, b', c⟩⟩⟩
/-! ### words -/
def textS (xs gs : List Bool) : Str := figs xs ++ "(" ++ figs gs ++ ")"
theorem textS_len0 (a b : Str) : (a ++ b).length = a.length + b.length := strLen_append ..
end Fz

set_option Elab.async false
set_option linter.all false
set_option maxRecDepth 100000
set_option maxHeartbeats 2000000
/-! Own layer: x & y and the like of two instances of one class; ~x. -/
namespace Fz
open PySem PySem.Spec PyProof.Rows L2
section
variable {X : Cx} {C f : Addr} {fd : FuncData} {ps : List Str} {sp : Sp} {k : Nat}
/-- x op y, both instances of C -/
def rBinO (C : Addr) (sp : Sp) : R2 := fun x y H Q => ∃ (a dx : Addr) (fs : List (Str × V)) (b dy : Addr) (gs : List (Str × V)), x = .ref a ∧ H a = some (.ins C dx fs) ∧ y = .ref b ∧ H b = some (.ins C dy gs) ∧ sp [x, y] H Q E0
theorem op_binO {op : Operator} (first : PySem.W.selfFirst X.K C = true) (own : PySem.W.findIn X.K (.ref C) (PySem.dunder op.info.2) = some (some (.ref f))) (isF : PySem.W.isFn X.K (.ref f) = true) (F : FnOk X.prog X.w X.K X.mg X.base CX0 k f fd ps sp) (binds : L2.Binds X.K fd ps []) (room : Room k X.A) : OpR X (binaryOp op) (rBinO C sp) := by
  intro pins s σ H x y v u Q I rx ry h
  obtain ⟨a, dx, fs, b, dy, gs, rfl, ha, rfl, hb, q⟩ := h
  cases (show v = Value.ref a from rx)
  cases (show u = Value.ref b from ry)
  obtain ⟨mA, O, _⟩ := ins_get I.hok ha
  obtain ⟨od, J, _⟩ := O.look
  obtain ⟨mB, O2, _⟩ := ins_get I.hok hb
  obtain ⟨od2, J2, _⟩ := O2.look
  obtain ⟨m, hF⟩ := I.fr
  refine PySem.W.binop_K hF I.ok.mod.kin J J2.type first own isF ?_
  refine wpAny_mono (run_fn (us := [.ref a, .ref b]) (vs := [.ref a, .ref b]) F room binds .nil pass0 I (.cons rfl (.cons rfl .nil)) q) (fun w s' z => ?_) fun _ _ z => z
  obtain ⟨z', H', I', rz, qz⟩ := z
  exact SlX.cmpback rz ⟨z', H', I', rz, qz⟩
/-- ~x -/
def rInvO (C : Addr) (sp : Sp) : V → Hp → VK → Prop := fun x H Q => ∃ (a dx : Addr) (fs : List (Str × V)), x = .ref a ∧ H a = some (.ins C dx fs) ∧ sp [x] H Q E0
end
end Fz

set_option Elab.async false
set_option linter.all false
set_option maxRecDepth 100000
set_option maxHeartbeats 4000000
/-! Own layer: tuple * 1; tuple * k for k from 1 on. -/
namespace Fz
open PySem PySem.Spec PyProof.Rows L2
theorem once_meets (l : Addr) (items : Array Value) (n : Nat) (dd : Option Addr) (sl : Array (Option Value)) (u : Tok) :
    Meets (Builtin.«tuple.__mul__» ⟨[.ref l, .int 1 u], []⟩) (fun _ R s => s.heap.get? l = some { cls := .type "tuple", dict := dd, data := .seq items n, slots := sl } ∧ R (.ok (.ret (Value.ref l))) s) :=
  .of_wp fun prog w A R s h => by
    obtain ⟨hp, g, d, tk, os⟩ := s
    obtain ⟨hl, h⟩ := h
    have f1 := AutoSeq1.idx_int
    wp_walk using wpAny_loadPart' hl
    exact ⟨_, rfl, h⟩
/-- tuple * k, k from 1 on -/
def rMulA (K : PySem.W.Frag) : R2 := fun x y H Q => ∃ l k xs, x = .ref l ∧ y = .int k ∧ SqT K H l xs ∧ xs ≠ [] ∧ 1 ≤ k ∧ k ≤ 1000 ∧ xs.length ≤ 1000 ∧ (k = 1 → Q (.ref l) H) ∧ (k ≠ 1 → ∀ p, H p = none → Q (.ref p) (upd H p (.tup (List.replicate k.toNat xs).flatten)))
section
variable {X : Cx}
theorem op_rep1 : OpR X (binaryOp .Mult) (fun x y H Q => ∃ l xs, x = .ref l ∧ y = .int 1 ∧ SqT X.K H l xs ∧ Q (.ref l) H) := by
  intro pins s σ H x y v u Q I rx ry h
  obtain ⟨l, xs, rfl, rfl, hT, q⟩ := h
  cases rx
  obtain ⟨t, rfl⟩ := ry
  obtain ⟨vals, rel, ⟨⟨c0, d0, body, slots⟩, at0, ec, num, ed⟩, _⟩ := I.tuple hT
  obtain rfl : c0 = _ := ec
  obtain rfl : body = _ := ed
  have own : s.TypeIs (.ref l) "tuple" := ⟨_, at0, rfl⟩
  refine wpAny_binaryOp_repeat_ref (T := "tuple") (U := "int") (ix := .builtin "int.__index__") (by decide) own (fun z => typeIs_int z 1 t) noFill_tuple_mul F.fills_int_mul
    F.slot_int_rmul repeat_tuple F.slot_int_index.lookup ?_
  refine call_meets F.slot_int_rmul (typeIs_int s 1 t) F.entry_int_rmul (F.args_int_rmul_2 _ _) (int_rmul_tuple 1 t l vals.toArray num d0 slots) ?_
  refine ⟨at0, rfl, own, ?_⟩
  refine call_meets F.slot_tuple_mul own F.entry_tuple_mul (F.args_tuple_mul_2 _ _) (once_meets l vals.toArray num d0 slots t) ?_
  exact ⟨at0, V.ref l, H, I, rfl, q⟩
theorem op_repA : OpR X (binaryOp .Mult) (rMulA X.K) := by
  intro pins s σ H x y v u Q I rx ry h
  obtain ⟨l, k, xs, rfl, rfl, hT, hne, h1, h2, hz, q1, q2⟩ := h
  by_cases e : k = 1
  · subst e
    exact op_rep1 pins s σ H _ _ v u Q I rx ry ⟨l, xs, rfl, rfl, hT, q1 rfl⟩
  · exact op_repT pins s σ H _ _ v u Q I rx ry ⟨l, k, xs, rfl, rfl, hT, hne, by omega, h2, hz, q2 e⟩
end
end Fz
namespace Fz
open PySem PySem.Spec PyProof.Rows L2
section
variable {K : PySem.W.Frag} {H : Hp} {Q : VK} {a b : Addr} {xs ys : List V} {k : Int}
theorem cat_b (ha : H a = some (.tup xs)) (hb : H b = some (.tup ys)) (z : xs.length + ys.length ≤ sizeLine) (fin : ∀ t H', Same H H' → H' t = some (.tup (xs ++ ys)) → Q (.ref t) H') : rCatA K (.ref a) (.ref b) H Q := by
  refine ⟨a, b, xs, ys, rfl, rfl, SqT.of ha, SqT.of hb, z, fun e => ?_, fun _ e => ?_, fun _ _ p hp => fin p _ (Same.new hp) upd_same⟩
  · subst e
    exact fin b H (fun _ _ z => z) hb
  · subst e
    exact fin a H (fun _ _ z => z) (by rw [List.append_nil]; exact ha)
theorem mul_b (ha : H a = some (.tup xs)) (ne : xs ≠ []) (k1 : 1 ≤ k) (k2 : k ≤ 1000) (few : xs.length ≤ 1000) (fin : ∀ t H', Same H H' → H' t = some (.tup (List.replicate k.toNat xs).flatten) → Q (.ref t) H') : rMulA K (.ref a) (.int k) H Q := by
  refine ⟨a, k, xs, rfl, rfl, SqT.of ha, ne, k1, k2, few, fun e => ?_, fun _ p hp => fin p _ (Same.new hp) upd_same⟩
  subst e
  refine fin a H (fun _ _ z => z) ?_
  rw [show ((1 : Int)).toNat = 1 from rfl, show List.replicate 1 xs = [xs] from rfl, List.flatten_cons, List.flatten_nil, List.append_nil]
  exact ha
end
theorem rep_at (gs : List Bool) (g1 : 1 ≤ gs.length) : ∀ (k i : Nat), i < k * gs.length → ((List.replicate k gs).flatten)[i]? = gs[i % gs.length]?
  | 0, i, h => by omega
  | k + 1, i, h => by
    rw [List.replicate_succ, List.flatten_cons]
    by_cases c : i < gs.length
    · rw [List.getElem?_append_left c, Nat.mod_eq_of_lt c]
    · rw [List.getElem?_append_right (by omega), rep_at gs g1 k (i - gs.length) (by rw [Nat.succ_mul] at h; omega), show i % gs.length = (i - gs.length) % gs.length from Nat.mod_eq_sub_mod (by omega)]
/-- a row told longer tells the set -/
theorem long_row {xs gs : List Bool} (g1 : 1 ≤ gs.length) {k n : Nat} (h : n ≤ xs.length + gs.length + k * gs.length) : ((xs ++ gs) ++ (List.replicate k gs).flatten).take n = boolsW (xs ++ gs) xs.length gs.length n := by
  unfold boolsW
  apply List.ext_getElem?
  intro i
  by_cases c : i < n
  · rw [List.getElem?_take_of_lt c, List.getElem?_map, List.getElem?_range c]
    show _ = some (atB (xs ++ gs) xs.length gs.length i)
    rw [← sizB_app g1]
    unfold sizB
    by_cases c1 : i < xs.length
    · rw [if_pos c1, List.getElem?_append_left (by rw [List.length_append]; omega), List.getElem?_append_left c1, List.getD_eq_getElem?_getD, List.getElem?_eq_getElem c1]
      rfl
    · have m := Nat.mod_lt (i - xs.length) (show gs.length > 0 by omega)
      have e : gs[(i - xs.length) % gs.length]? = some (gs.getD ((i - xs.length) % gs.length) false) := by
        rw [List.getD_eq_getElem?_getD, List.getElem?_eq_getElem m]
        rfl
      rw [if_neg c1, ← e]
      by_cases c2 : i < xs.length + gs.length
      · rw [List.getElem?_append_left (by rw [List.length_append]; omega), List.getElem?_append_right (by omega), Nat.mod_eq_of_lt (show i - xs.length < gs.length by omega)]
      · rw [List.getElem?_append_right (by rw [List.length_append]; omega), List.length_append, rep_at gs g1 k _ (by omega), show i - (xs.length + gs.length) = i - xs.length - gs.length by omega, ← Nat.mod_eq_sub_mod (by omega)]
  · rw [List.getElem?_eq_none (by rw [List.length_take]; omega), List.getElem?_eq_none (by rw [List.length_map, List.length_range]; omega)]
end Fz

set_option Elab.async false
set_option linter.all false
set_option maxRecDepth 100000
set_option maxHeartbeats 2000000
/-! Own layer: a least form begins no later than it is told, and its period divides the told one; sets told by rows (pure). -/
namespace Fz
open PySem PySem.Spec PyProof.Rows L2
theorem Form.per_mul {W : Nat → Int} {b p : Nat} (f : Form W b p) {i : Nat} (hi : b ≤ i) : ∀ k : Nat, W (i + p * k) = W i
  | 0 => rfl
  | k + 1 => by rw [Nat.mul_succ, ← Nat.add_assoc, f.per _ (by omega), f.per_mul hi k]
theorem Form.dvd {row : List Int} {a n b p : Nat} (f : Form (atW row a n) b p) (n1 : 1 ≤ n) : p ∣ n := by
  refine Classical.byContradiction fun no => ?_
  have p1 := f.p1
  have r1 : 1 ≤ n % p := by
    rcases Nat.eq_zero_or_pos (n % p) with z | z
    · exact absurd (Nat.dvd_of_mod_eq_zero z) no
    · exact z
  have lt := Nat.mod_lt n (show p > 0 by omega)
  have q := f.min (n % p) (a + b) r1 fun i hi => by
    have e1 := atW_per1 (row := row) (n := n) (show a ≤ i by omega)
    have e2 := f.per_mul (show b ≤ i + n % p by omega) (n / p)
    rw [show i + n % p + p * (n / p) = i + n by have := Nat.mod_add_div n p; omega, e1] at e2
    exact e2.symm
  omega
theorem Form.early {row : List Int} {a n b p : Nat} (f : Form (atW row a n) b p) (n1 : 1 ≤ n) : b ≤ a := by
  refine Classical.byContradiction fun no => ?_
  rcases f.low with z | z
  · omega
  · refine z ?_
    have e1 := atW_per1 (row := row) (n := n) (show a ≤ b - 1 by omega)
    have e2 := atW_per1 (row := row) (n := n) (show a ≤ b - 1 + p by omega)
    have e3 := f.per (b - 1 + n) (by omega)
    rw [show b - 1 + n + p = b - 1 + p + n by omega, e2, e1] at e3
    exact e3
end Fz

set_option Elab.async false
set_option linter.all false
set_option maxRecDepth 100000
set_option maxHeartbeats 2000000
/-! Own layer: errors of two fields, raised. -/
namespace Fz
open PySem PySem.Spec PyProof.Rows L2
def spE2 (C : Addr) (f g : Str) : Sp := fun vs H Q _ => ∃ (a : Addr) (x y : V), vs = [.ref a, x, y] ∧ H a = some (exo a C none) ∧ ∀ d, H d = none → d ≠ a → Q .non (upd (upd (upd H d (exd d [(f, x)])) a (exo a C (some d))) d (exd d [(g, y), (f, x)]))
def BadE2 (C : Addr) (f g : Str) (x y : V) (E : XK) (H : Hp) : Prop := ∀ d, H d = none → E (.ref C) (some d) (upd H d (.xd [(g, y), (f, x)]))
theorem bade2_made {C : Addr} {f g : Str} {x y : V} {E : XK} {W : WX} {σ : L2.St} {H : Hp} {ta : TA} (args : ∀ Q : List V → Hp → Prop, Q [x, y] H → ta σ H Q) (h : BadE2 C f g x y E H) (hW : ∀ cls d H', E cls d H' → W cls d σ H') : tMkO C (spE2 C f g) [] ta σ H (fun cls d H' => W cls d σ H') := by
  refine args _ ⟨(show 2 ≤ 1000 by decide), fun a ha => ⟨a, x, y, rfl, upd_same, fun d hd ne => ⟨rfl, d, _, by rw [upd_ne (Ne.symm ne), upd_same], upd_same, by rw [upd_ne ne] at hd; exact hd, ?_⟩⟩⟩
  have hd0 : H d = none := by rw [upd_ne ne] at hd; exact hd
  have e : upd (del (upd (upd (upd (upd H a (exo a C none)) d (exd d [(f, x)])) a (exo a C (some d))) d (exd d [(g, y), (f, x)])) a) d (.xd [(g, y), (f, x)]) = upd H d (.xd [(g, y), (f, x)]) := by
    funext b
    by_cases hb : b = d
    · subst hb
      rw [upd_same, upd_same]
    · rw [upd_ne hb, upd_ne hb]
      by_cases hba : b = a
      · subst hba
        rw [del_same, ha]
      · rw [del_ne hba, upd_ne hb, upd_ne hba, upd_ne hb, upd_ne hba]
  show W (.ref C) (some d) σ (upd (del (upd (upd (upd (upd H a (exo a C none)) d (exd d [(f, x)])) a (exo a C (some d))) d (exd d [(g, y), (f, x)])) a) d (.xd [(g, y), (f, x)]))
  rw [e]
  exact hW _ _ _ (h d hd0)
/-- an error class of the name n with two fields -/
structure PrgE2 (K : PySem.W.Frag) (mg : Str → Option Value) (n f g : Str) (C i : Addr) : Prop where
  g_ : mg n = some (.ref C)
  oB : OexC K C
  nF : PySem.W.findIn K (.ref C) f = some none
  nG : PySem.W.findIn K (.ref C) g = some none
  iB : PySem.W.findIn K (.ref C) "__init__" = some (some (.ref i))
  tB : PySem.W.typeIn K (.ref i) = some (.type "function")
end Fz

set_option Elab.async false
set_option linter.all false
set_option maxRecDepth 100000
set_option maxHeartbeats 4000000
/-! Own layer: list(zip(a, b)) of two lists. -/
namespace Fz
open PySem PySem.Spec PyProof.Rows L2
/-- what stays: the list and its pairs. The cells of the zip lie from the old heap's size on, the list behind them. -/
structure ZOut (h0 : Heap) (xs ys : Array Value) (h : Heap) (as : List Addr) : Prop where
  lst : ∃ acc c, h.get? (h0.objs.size + 5) = some { cls := .type "list", dict := none, data := .seq acc c, slots := #[] } ∧ acc.toList = as.map Value.ref
  up : as.Pairwise (· < ·)
  late : ∀ a ∈ as, h0.objs.size + 6 ≤ a ∧ a < h.objs.size
  tup : ∀ (j : Nat) (a : Addr), as[j]? = some a → ∃ x y, xs[j]? = some x ∧ ys[j]? = some y ∧ IsPair h a x y
  keep : ∀ b o, h0.get? b = some o → h.get? b = some o
structure ZSt (h0 : Heap) (l1 l2 : Addr) (xs ys : Array Value) (i : Nat) (h : Heap) (as : List Addr) : Prop where
  zip : (i = 0 ∧ IsZip h (h0.objs.size + 4) (h0.objs.size + 2) (h0.objs.size + 3) .none ∧ IsPair h (h0.objs.size + 3) .none .none) ∨ ∃ T f oT, PySem.IsZipHeld h (h0.objs.size + 4) (h0.objs.size + 2) (h0.objs.size + 3) T f ∧ h.get? T = some oT ∧ h0.objs.size + 6 ≤ T
  ti : IsPair h (h0.objs.size + 2) (.ref h0.objs.size) (.ref (h0.objs.size + 1))
  it1 : h.IsListIter h0.objs.size l1 i
  it2 : h.IsListIter (h0.objs.size + 1) l2 i
  out : ZOut h0 xs ys h as
  many : as.length = i
  big : h0.objs.size + 6 ≤ h.objs.size
theorem ZOut.moved {h0 h h' : Heap} {xs ys : Array Value} {as : List Addr} (z : ZOut h0 xs ys h as) (k : ∀ c o, c ≠ h0.objs.size + 4 → c ≠ h0.objs.size + 3 → c ≠ h0.objs.size → c ≠ h0.objs.size + 1 → h.get? c = some o → h'.get? c = some o) : ZOut h0 xs ys h' as := by
  obtain ⟨acc, c, e, ea⟩ := z.lst
  refine ⟨⟨acc, c, k _ _ (by omega) (by omega) (by omega) (by omega) e, ea⟩, z.up, fun a ha => ?_, fun j a hj => ?_, fun b o e => ?_⟩
  · obtain ⟨j, hj⟩ := List.mem_iff_getElem?.mp ha
    obtain ⟨x, y, _, _, p⟩ := z.tup j a hj
    have l := z.late a ha
    exact ⟨l.1, Heap.lt_size (k a _ (by omega) (by omega) (by omega) (by omega) p)⟩
  · obtain ⟨x, y, e1, e2, p⟩ := z.tup j a hj
    have l := z.late a (List.mem_of_getElem? hj)
    exact ⟨x, y, e1, e2, k a _ (by omega) (by omega) (by omega) (by omega) p⟩
  · have l : (b : Nat) < h0.objs.size := Heap.lt_size e
    exact k b o (Nat.ne_of_lt (Nat.lt_add_right 4 l)) (Nat.ne_of_lt (Nat.lt_add_right 3 l)) (Nat.ne_of_lt l) (Nat.ne_of_lt (Nat.lt_add_right 1 l)) (z.keep b o e)
theorem ZOut.more {h0 h : Heap} {xs ys : Array Value} {as : List Addr} {a : Addr} {x y : Value} (z : ZOut h0 xs ys h as) (above : ∀ b ∈ as, b < a) (la : h0.objs.size + 6 ≤ a) (hx : xs[as.length]? = some x) (hy : ys[as.length]? = some y) (p : IsPair h a x y) {acc : Array Value} {c : Nat}
    (hS : h.get? (h0.objs.size + 5) = some { cls := .type "list", dict := none, data := .seq acc c, slots := #[] }) (ea : acc.toList = as.map Value.ref) : ZOut h0 xs ys (h.update (h0.objs.size + 5) (Obj.mapSeq (·.push (Value.ref a)))) (as ++ [a]) := by
  have oth : ∀ b o, b ≠ h0.objs.size + 5 → h.get? b = some o → (h.update (h0.objs.size + 5) (Obj.mapSeq (·.push (Value.ref a)))).get? b = some o := fun b o n e => (Heap.get?_update_other _ _ (Ne.symm n)).trans e
  refine ⟨⟨acc.push (.ref a), _, Heap.get?_update_self _ hS rfl, by rw [Array.toList_push, ea, List.map_append]; rfl⟩, ?_, fun b hb => ?_, fun j b hj => ?_, fun b o e => ?_⟩
  · refine List.pairwise_append.mpr ⟨z.up, List.pairwise_singleton _ _, fun b hb d hd => ?_⟩
    rw [List.mem_singleton.mp hd]
    exact above b hb
  · rcases List.mem_append.mp hb with m | m
    · have l := z.late b m
      obtain ⟨j, hj⟩ := List.mem_iff_getElem?.mp m
      obtain ⟨_, _, _, _, q⟩ := z.tup j b hj
      exact ⟨l.1, Heap.lt_size (oth b _ (by omega) q)⟩
    · rw [List.mem_singleton.mp m]
      exact ⟨la, Heap.lt_size (oth a _ (by omega) p)⟩
  · by_cases c1 : j < as.length
    · rw [List.getElem?_append_left c1] at hj
      obtain ⟨x', y', e1, e2, q⟩ := z.tup j b hj
      have l := z.late b (List.mem_of_getElem? hj)
      exact ⟨x', y', e1, e2, oth b _ (by omega) q⟩
    · by_cases c2 : j = as.length
      · subst c2
        rw [List.getElem?_append_right (Nat.le_refl _), Nat.sub_self] at hj
        cases hj
        exact ⟨x, y, hx, hy, oth a _ (by omega) p⟩
      · rw [List.getElem?_eq_none (by rw [List.length_append]; show as.length + 1 ≤ j; omega)] at hj
        cases hj
  · have l : (b : Nat) < h0.objs.size := Heap.lt_size e
    exact oth b o (Nat.ne_of_lt (Nat.lt_add_right 5 l)) (z.keep b o e)
section
variable {prog : Program} {w : World} {A : Around} {s : Shared} {R : Result → Shared → Prop} {h0 : Heap} {l1 l2 : Nat} {xs ys : Array Value} {n : Nat}
theorem nat_ne {a b : Nat} (h : a ≠ b) : a ≠ b := h
theorem zcells (b1 : l1 < h0.objs.size) (b2 : l2 < h0.objs.size) : ZipApart (h0.objs.size + 4) (h0.objs.size + 2) (h0.objs.size + 3) h0.objs.size (h0.objs.size + 1) l1 l2 := by
  refine ⟨?_, ?_, ?_, ?_, ?_, ?_, ?_, ?_, ?_, ?_, ?_, ?_, ?_, ?_, ?_, ?_, ?_, ?_⟩ <;> exact nat_ne (by omega)
/-- one pair more -/
theorem zip_turn {E : Value → Shared → Prop} {Q : Option Value → Shared → Prop} (e1 : h0.IsList l1 xs) (e2 : h0.IsList l2 ys) (b1 : l1 < h0.objs.size) (b2 : l2 < h0.objs.size) {i : Nat} {h : Heap} {as : List Addr} {tk : Nat} {x y : Value} (z : ZSt h0 l1 l2 xs ys i h as) (hx : xs[i]? = some x) (hy : ys[i]? = some y)
    (hQ : ∀ h', PySem.IsZipHeld h' (h0.objs.size + 4) (h0.objs.size + 2) (h0.objs.size + 3) h.objs.size false ∨ (∃ T oT, PySem.IsZipHeld h' (h0.objs.size + 4) (h0.objs.size + 2) (h0.objs.size + 3) T true ∧ h'.get? T = some oT ∧ h0.objs.size + 6 ≤ T) → h'.IsListIter h0.objs.size l1 (i + 1) → h'.IsListIter (h0.objs.size + 1) l2 (i + 1) → IsPair h' h.objs.size x y → h'.objs.size = h.objs.size + 1 →
      (∀ c o, c ≠ h0.objs.size + 4 → c ≠ h0.objs.size + 3 → c ≠ h0.objs.size → c ≠ h0.objs.size + 1 → h.get? c = some o → h'.get? c = some o) → Q (some (.ref h.objs.size)) { s with heap := h', toks := tk }) :
    wpAny (model prog w) A (pyNext (.ref (h0.objs.size + 4))) Q E { s with heap := h, toks := tk } := by
  have a1 : h.IsList l1 xs := e1.at fun o e => z.out.keep _ _ e
  have a2 : h.IsList l2 ys := e2.at fun o e => z.out.keep _ _ e
  rcases z.zip with ⟨_, hz, hto⟩ | ⟨T, f, oT, hz, hT, lT⟩
  · exact wpAny_pyNext_zip_item (s := { s with heap := h, toks := tk }) (zcells b1 b2) hz z.ti hto z.it1 z.it2 a1 a2 hx hy fun h' q1 _ q3 q4 q5 q6 q7 => hQ h' (.inl q1) q3 q4 q5 q6 q7
  · exact wpAny_pyNext_zip_item_held (s := { s with heap := h, toks := tk }) (zcells b1 b2) hz hT z.ti z.it1 z.it2 a1 a2 hx hy fun h' q1 q3 q4 q5 q6 q7 => hQ h' (.inr ⟨T, oT, q1, q7 T oT (nat_ne (by omega)) (nat_ne (by omega)) (nat_ne (by omega)) hT, lT⟩) q3 q4 q5 q6 fun c o c1 c2 c3 c4 => q7 c o c1 c3 c4
/-- no pair more -/
theorem zip_stop {E : Value → Shared → Prop} {Q : Option Value → Shared → Prop} (hh : A.handled = none) (e1 : h0.IsList l1 xs) (e2 : h0.IsList l2 ys) (b1 : l1 < h0.objs.size) (b2 : l2 < h0.objs.size) {i : Nat} {h : Heap} {as : List Addr} {tk : Nat} (z : ZSt h0 l1 l2 xs ys i h as) (hx : xs[i]? = none)
    (hQ : ∀ h', (∀ c o, c ≠ h0.objs.size + 4 → c ≠ h0.objs.size + 3 → c ≠ h0.objs.size → c ≠ h0.objs.size + 1 → h.get? c = some o → h'.get? c = some o) → Q none { s with heap := h', toks := tk }) :
    wpAny (model prog w) A (pyNext (.ref (h0.objs.size + 4))) Q E { s with heap := h, toks := tk } := by
  have a1 : h.IsList l1 xs := e1.at fun o e => z.out.keep _ _ e
  have a2 : h.IsList l2 ys := e2.at fun o e => z.out.keep _ _ e
  rcases z.zip with ⟨_, hz, hto⟩ | ⟨T, f, oT, hz, hT, lT⟩
  · exact wpAny_pyNext_zip_end (s := { s with heap := h, toks := tk }) hh (zcells b1 b2) hz z.ti hto z.it1 z.it2 a1 a2 (.inl hx) fun h' q => hQ h' q
  · exact wpAny_pyNext_zip_end_held (s := { s with heap := h, toks := tk }) hh (zcells b1 b2) hz hT z.ti z.it1 z.it2 a1 a2 (.inl hx) fun h' q => hQ h' fun c o c1 _ c3 c4 => q c o c1 c3 c4
theorem zip_loop (hh : A.handled = none) (e1 : h0.IsList l1 xs) (e2 : h0.IsList l2 ys) (b1 : l1 < h0.objs.size) (b2 : l2 < h0.objs.size) (n1 : xs.size = n) (n2 : ys.size = n) (few : n ≤ sizeLine) (res : Value)
    (hR : ∀ h tk as, ZOut h0 xs ys h as → as.length = n → R (.ok (.ret res)) { s with heap := h, toks := tk }) :
    ∀ (k i : Nat) (h : Heap) (tk : Nat) (as : List Addr), n - i = k → i ≤ n → ZSt h0 l1 l2 xs ys i h as → codeAny (model prog w) A (.builtin "list.extend.loop" ⟨[.ref (h0.objs.size + 5), .ref (h0.objs.size + 4), res], []⟩) R { s with heap := h, toks := tk }
  | 0, i, h, tk, as, hk, hi, z => by
    have hx : xs[i]? = none := Array.getElem?_eq_none (by omega)
    refine codeAny_builtin (PySem.F.entry_extend_loop) ?_
    rw [Around.under_plainId (PySem.F.plain_extend_loop) _]
    show wpAny _ A.in1 (pyNext (.ref (h0.objs.size + 4)) >>= _) _ _ _
    refine wpAny_bind (zip_stop (A := A.in1) hh e1 e2 b1 b2 z hx fun h' q => ?_)
    exact wpAny_pure (hR h' tk as (z.out.moved q) (by rw [z.many]; omega))
  | k + 1, i, h, tk, as, hk, hi, z => by
    have lt : i < n := by omega
    obtain ⟨x, hx⟩ : ∃ x, xs[i]? = some x := ⟨xs[i], Array.getElem?_eq_getElem (by omega)⟩
    obtain ⟨y, hy⟩ : ∃ y, ys[i]? = some y := ⟨ys[i], Array.getElem?_eq_getElem (by omega)⟩
    refine codeAny_builtin (PySem.F.entry_extend_loop) ?_
    rw [Around.under_plainId (PySem.F.plain_extend_loop) _]
    show wpAny _ A.in1 (pyNext (.ref (h0.objs.size + 4)) >>= _) _ _ _
    refine wpAny_bind (zip_turn (A := A.in1) e1 e2 b1 b2 z hx hy fun h' q1 q2 q3 q4 q5 q6 => ?_)
    have o1 := z.out.moved q6
    obtain ⟨acc, c, hS, ea⟩ := o1.lst
    have big := z.big
    have size : acc.size = i := by rw [← Array.length_toList, ea, List.length_map, z.many]
    show wpAny _ A.in1 (updateSeq (h0.objs.size + 5) (·.push (Value.ref h.objs.size)) >>= _) _ _ _
    have oth : ∀ b o, b ≠ h0.objs.size + 5 → h'.get? b = some o → (h'.update (h0.objs.size + 5) (Obj.mapSeq (·.push (Value.ref h.objs.size)))).get? b = some o := fun b o m e => (Heap.get?_update_other _ _ (Ne.symm m)).trans e
    refine wpAny_bind (wpAny_updateSeq hS rfl (wpAny_pure ⟨plainId_quiet PySem.F.plain_extend_loop _, zip_loop hh e1 e2 b1 b2 n1 n2 few res hR k (i + 1) _ tk (as ++ [h.objs.size]) (by omega) lt ?_⟩) ?_ ?_)
    · have here := oth h.objs.size _ (nat_ne (by omega)) q4
      have lh : (h.objs.size : Nat) < (h'.update (h0.objs.size + 5) (Obj.mapSeq (·.push (Value.ref h.objs.size)))).objs.size := Heap.lt_size here
      refine ⟨.inr ?_, ?_, q2.at fun o e => oth _ _ (nat_ne (by omega)) e, q3.at fun o e => oth _ _ (nat_ne (by omega)) e, ?_, by rw [List.length_append, z.many]; rfl, Nat.le_of_lt (Nat.lt_of_le_of_lt big lh)⟩
      · rcases q1 with q1 | ⟨T, oT, q1, qT, lT⟩
        · exact ⟨h.objs.size, false, _, oth _ _ (nat_ne (by omega)) q1, here, big⟩
        · exact ⟨T, true, oT, oth _ _ (nat_ne (by omega)) q1, oth _ _ (nat_ne (by omega)) qT, lT⟩
      · exact oth _ _ (nat_ne (by omega)) (q6 (h0.objs.size + 2) _ (nat_ne (by omega)) (nat_ne (by omega)) (nat_ne (by omega)) (nat_ne (by omega)) z.ti)
      · exact o1.more (fun b hb => (z.out.late b hb).2) big (by rw [z.many]; exact hx) (by rw [z.many]; exact hy) q4 hS ea
    · rw [size]; omega
    · show (acc.push (Value.ref h.objs.size)).size ≤ sizeLine + 1
      rw [Array.size_push, size]
      omega
theorem zip_len0 : typeLookup (.type "zip") "__len__" = pure none := by rw [typeLookup_type, builtinLookup_eq_fast]; kernel_rfl
theorem zip_hint0 : typeLookup (.type "zip") "__length_hint__" = pure none := by rw [typeLookup_type, builtinLookup_eq_fast]; kernel_rfl
theorem ZSt.touched {h h' : Heap} (z : ZSt h0 l1 l2 xs ys 0 h []) {c : Nat} (hS : h'.get? (h0.objs.size + 5) = some { cls := .type "list", dict := none, data := .seq #[] c, slots := #[] }) (k : ∀ b o, b ≠ h0.objs.size + 5 → h.get? b = some o → h'.get? b = some o) (big : h0.objs.size + 6 ≤ h'.objs.size) : ZSt h0 l1 l2 xs ys 0 h' [] := by
  refine ⟨?_, k _ _ (nat_ne (by omega)) z.ti, z.it1.at fun o e => k _ _ (nat_ne (by omega)) e, z.it2.at fun o e => k _ _ (nat_ne (by omega)) e, ⟨⟨#[], c, hS, rfl⟩, .nil, (fun _ m => nomatch m), (fun j a e => by simp at e), fun b o e => ?_⟩, rfl, big⟩
  · rcases z.zip with ⟨e, hz, ht⟩ | ⟨T, f, oT, hz, hT, lT⟩
    · exact .inl ⟨e, k _ _ (nat_ne (by omega)) hz, k _ _ (nat_ne (by omega)) ht⟩
    · exact .inr ⟨T, f, oT, k _ _ (nat_ne (by omega)) hz, k _ _ (nat_ne (by omega)) hT, lT⟩
  · have l : (b : Nat) < h0.objs.size := Heap.lt_size e
    exact k b o (Nat.ne_of_lt (Nat.lt_add_right 5 l)) (z.out.keep b o e)
theorem zip_extend (hh : A.handled = none) (e1 : h0.IsList l1 xs) (e2 : h0.IsList l2 ys) (b1 : l1 < h0.objs.size) (b2 : l2 < h0.objs.size) (n1 : xs.size = n) (n2 : ys.size = n) (few : n ≤ sizeLine) (res : Value) (z : ZSt h0 l1 l2 xs ys 0 s.heap []) (f0 : Value) (hz : IsZip s.heap (h0.objs.size + 4) (h0.objs.size + 2) (h0.objs.size + 3) f0)
    {c0 : Nat} (hS : s.heap.get? (h0.objs.size + 5) = some { cls := .type "list", dict := none, data := .seq #[] c0, slots := #[] })
    (hR : ∀ h tk as, ZOut h0 xs ys h as → as.length = n → R (.ok (.ret res)) { s with heap := h, toks := tk }) :
    wpAny (model prog w) A.in1 (Builtin.List.listExtendWith (.ref (h0.objs.size + 5)) (.ref (h0.objs.size + 4)) res)
      (fun fin s' => match fin with | .done f => R (.ok f) s' | .again c' => c'.quiet = true ∧ codeAny (model prog w) A c' R s') (fun e s' => R (.error e) s') s := by
  have isZ : s.TypeIs (.ref (h0.objs.size + 4)) "zip" := ⟨_, hz, rfl⟩
  unfold PySem.Builtin.List.listExtendWith
  refine wpAny_bind (wpAny_typeOf isZ ?_)
  have d1 : Builtin.List.listSameRef (.ref (h0.objs.size + 5)) (.ref (h0.objs.size + 4)) = false := by simp [Builtin.List.listSameRef]
  have d2 : (Value.type "zip" == Value.type "list") = false ∧ (Value.type "zip" == Value.type "tuple") = false := by decide
  simp only [d1, d2.1, d2.2, Bool.or_false, Bool.false_eq_true, if_false]
  refine wpAny_bind (wpAny_pyIter_zip hz ?_)
  refine wpAny_bind (wpAny_holding (?_))
  unfold PySem.Builtin.List.listLengthHint
  refine wpAny_bind (wpAny_specialOf isZ zip_len0 ?_)
  show wpAny _ A.in1 (specialOf (Value.ref (h0.objs.size + 4)) (Str.ofString "__length_hint__") >>= _) _ _ _
  refine wpAny_bind (wpAny_specialOf isZ zip_hint0 (wpAny_pure ?_))
  show wpAny _ A.in1 (rule "list.extend.makes-room" >>= fun _ => Builtin.List.listTouch (.ref (h0.objs.size + 5)) >>= fun _ =>
    again (.builtin "list.extend.loop" ⟨[.ref (h0.objs.size + 5), .ref (h0.objs.size + 4), res], []⟩)) _ _ _
  refine wpAny_bind (wpAny_rule (wpAny_bind ?_))
  show wpAny _ A.in1 (updateSeq (h0.objs.size + 5) (·.push .none) >>= fun _ => updateSeq (h0.objs.size + 5) (·.pop)) _ _ _
  refine wpAny_bind (wpAny_updateSeq (hS) rfl ?_)
  have g1 := Heap.get?_update_self (Obj.mapSeq (·.push (Value.none))) (hS) rfl
  refine wpAny_updateSeq (hz := by seq_fits) g1 rfl (wpAny_pure ⟨plainId_quiet PySem.F.plain_extend_loop _, ?_⟩)
  have g2 := Heap.get?_update_self (Obj.mapSeq (·.pop)) g1 rfl
  have oth : ∀ b o, b ≠ h0.objs.size + 5 → s.heap.get? b = some o → ((s.heap.update (h0.objs.size + 5) (Obj.mapSeq (·.push Value.none))).update (h0.objs.size + 5) (Obj.mapSeq (·.pop))).get? b = some o :=
    fun b o m e => (Heap.get?_update_other _ _ (Ne.symm m)).trans ((Heap.get?_update_other _ _ (Ne.symm m)).trans e)
  exact zip_loop hh e1 e2 b1 b2 n1 n2 few res hR n 0 _ s.toks [] (Nat.sub_zero _) (Nat.zero_le _) (z.touched g2 oth (Heap.lt_size g2))
theorem zip_init (hh : A.handled = none) (e1 : h0.IsList l1 xs) (e2 : h0.IsList l2 ys) (b1 : l1 < h0.objs.size) (b2 : l2 < h0.objs.size) (n1 : xs.size = n) (n2 : ys.size = n) (few : n ≤ sizeLine) (z : ZSt h0 l1 l2 xs ys 0 s.heap []) (hz : IsZip s.heap (h0.objs.size + 4) (h0.objs.size + 2) (h0.objs.size + 3) .none)
    {c0 : Nat} (hS : s.heap.get? (h0.objs.size + 5) = some { cls := .type "list", dict := none, data := .seq #[] c0, slots := #[] })
    (hR : ∀ h tk as, ZOut h0 xs ys h as → as.length = n → R (.ok (.ret .none)) { s with heap := h, toks := tk }) :
    wpAny (model prog w) A.in1 (Builtin.«list.__init__» ⟨[.ref (h0.objs.size + 5), .ref (h0.objs.size + 4)], []⟩)
      (fun fin s' => match fin with | .done f => R (.ok f) s' | .again c' => c'.quiet = true ∧ codeAny (model prog w) A c' R s') (fun e s' => R (.error e) s') s := by
  show wpAny _ A.in1 (Builtin.List.listItems (.ref (h0.objs.size + 5)) >>= fun old => Builtin.List.listUpdate (.ref (h0.objs.size + 5)) (fun _ => #[]) >>= fun _ => letGo old.toList.reverse >>= fun _ => Builtin.List.listExtendWith (.ref (h0.objs.size + 5)) (.ref (h0.objs.size + 4)) .none) _ _ s
  refine wpAny_bind ?_
  unfold PySem.Builtin.List.listItems
  refine wpAny_bind (wpAny_seqItems (hS) rfl (wpAny_pure ?_))
  show wpAny _ A.in1 (updateSeq (h0.objs.size + 5) (fun _ => #[]) >>= _) _ _ s
  refine wpAny_bind (wpAny_updateSeq (hS) rfl ?_)
  have g1 := Heap.get?_update_self (Obj.mapSeq (fun _ => (#[] : Array Value))) hS rfl
  have oth : ∀ b o, b ≠ h0.objs.size + 5 → s.heap.get? b = some o → (s.heap.update (h0.objs.size + 5) (Obj.mapSeq (fun _ => (#[] : Array Value)))).get? b = some o := fun b o m e => (Heap.get?_update_other _ _ (Ne.symm m)).trans e
  refine wpAny_bind (wpAny_letGo (?_))
  exact zip_extend hh e1 e2 b1 b2 n1 n2 few .none (z.touched g1 oth (Heap.lt_size g1)) .none (oth _ _ (nat_ne (by omega)) hz) g1 fun h tk as o l => hR h tk as o l
theorem zip_list {E : Value → Shared → Prop} {Q : Value → Shared → Prop} (hh : A.handled = none) (e1 : h0.IsList l1 xs) (e2 : h0.IsList l2 ys) (b1 : l1 < h0.objs.size) (b2 : l2 < h0.objs.size) (n1 : xs.size = n) (n2 : ys.size = n) (few : n ≤ sizeLine)
    (hz : IsZip s.heap (h0.objs.size + 4) (h0.objs.size + 2) (h0.objs.size + 3) .none) (ti : IsPair s.heap (h0.objs.size + 2) (.ref h0.objs.size) (.ref (h0.objs.size + 1))) (to_ : IsPair s.heap (h0.objs.size + 3) .none .none)
    (i1 : s.heap.IsListIter h0.objs.size l1 0) (i2 : s.heap.IsListIter (h0.objs.size + 1) l2 0) (size : s.heap.objs.size = h0.objs.size + 5) (keep : ∀ c o, h0.get? c = some o → s.heap.get? c = some o)
    (hQ : ∀ h tk as, ZOut h0 xs ys h as → as.length = n → Q (.ref (h0.objs.size + 5)) { s with heap := h, toks := tk }) : wpAny (model prog w) A (call (.type "list") [.ref (h0.objs.size + 4)]) Q E s := by
  refine callType_codes (Q₁ := fun obj s₁ => obj = .ref s.heap.objs.size ∧ s₁ = { s with heap := s.heap.push { cls := .type "list", data := .seq #[] } }) PySem.F.called_list (PySem.F.typeCall_list_1 _) PySem.F.entry_list_init
    (code_list_new _ ⟨rfl, rfl⟩) fun obj s₁ made => ?_
  obtain ⟨rfl, rfl⟩ := made
  have new : (s.heap.push { cls := .type "list", data := .seq #[] }).get? s.heap.objs.size = some { cls := .type "list", data := .seq #[] } := Heap.get?_push_size _ rfl
  rw [size] at new ⊢
  have oth : ∀ b o, s.heap.get? b = some o → (s.heap.push { cls := .type "list", data := .seq #[] }).get? b = some o := fun b o e => Heap.get?_push_of_some _ e
  refine ⟨⟨_, new, rfl⟩, PySem.F.args_list_init_2 _ _, ?_⟩
  refine zip_init (A := A.in1) (s := { s with heap := s.heap.push { cls := .type "list", data := .seq #[] } }) hh e1 e2 b1 b2 n1 n2 few ?_ (oth _ _ hz) new fun h tk as o l => ⟨rfl, hQ h tk as o l⟩
  exact ⟨.inl ⟨rfl, oth _ _ hz, oth _ _ to_⟩, oth _ _ ti, i1.at fun o e => oth _ _ e, i2.at fun o e => oth _ _ e, ⟨⟨#[], _, new, rfl⟩, .nil, (fun _ m => nomatch m), (fun j a e => by simp at e), fun b o e => oth _ _ (keep b o e)⟩, rfl, Heap.lt_size new⟩
end
end Fz

set_option Elab.async false
set_option linter.all false
set_option maxRecDepth 100000
set_option maxHeartbeats 4000000
/-! Own layer: list(zip(a, b)) as a rule. -/
namespace Fz
open PySem PySem.Spec PyProof.Rows L2
/-- pairs at their addresses are tracked, one after the other; S is not yet -/
theorem lay_pairs {X : Cx} {pins : List (Addr × Obj)} {σ : L2.St} {h : Heap} {S : Addr} {s : Shared} : ∀ (as : List Addr) (ps : List (V × V)) (H : Hp) (G : Heap), as.length = ps.length → Inv X pins σ H { s with heap := G } → (∀ b o, G.get? b = some o → h.get? b = some o) → as.Nodup → (∀ a ∈ as, G.get? a = none ∧ H a = none ∧ a ≠ S) → G.get? S = none →
    (∀ (j : Nat) (a : Addr) (p : V × V), as[j]? = some a → ps[j]? = some p → ∃ x y, RelV p.1 x ∧ RelV p.2 y ∧ IsPair h a x y) →
    ∃ (H' : Hp) (G' : Heap), Inv X pins σ H' { s with heap := G' } ∧ (∀ b o, G'.get? b = some o → h.get? b = some o) ∧ G'.get? S = none ∧ (∀ b, b ∉ as → H' b = H b) ∧ (∀ (j : Nat) (a : Addr) (p : V × V), as[j]? = some a → ps[j]? = some p → H' a = some (.tup [p.1, p.2]))
  | [], ps, H, G, _, I, sub, _, _, gS, _ => ⟨H, G, I, sub, gS, fun _ _ => rfl, fun j a p e => by simp at e⟩
  | a :: as, [], H, G, l, _, _, _, _, _, _ => by cases l
  | a :: as, p :: ps, H, G, l, I, sub, nd, free, gS, pairs => by
    have nd' := List.nodup_cons.mp nd
    obtain ⟨x, y, rx, ry, hp⟩ := pairs 0 a p rfl rfl
    obtain ⟨fa, na, aS⟩ := free a List.mem_cons_self
    obtain ⟨G1, g1, g2⟩ := restrict h fun b => decide (b ∉ S :: as)
    have in1 : ∀ b, b ∉ S :: as → G1.get? b = h.get? b := fun b m => g1 b (decide_eq_true m)
    have out1 : ∀ b, b ∈ S :: as → G1.get? b = none := fun b m => g2 b (decide_eq_false (fun z => z m))
    have a1 : a ∉ S :: as := fun m => by
      rcases List.mem_cons.mp m with e | e
      · exact aS e
      · exact nd'.1 e
    have kept : ∀ b o, G.get? b = some o → G1.get? b = some o := fun b o e => by
      rw [in1 b (fun m => by
        rcases List.mem_cons.mp m with z | z
        · rw [z, gS] at e; cases e
        · rw [(free b (List.mem_cons_of_mem _ z)).1] at e; cases e)]
      exact sub b o e
    have here : IsPair G1 a x y := (in1 a a1).trans hp
    have I1 : Inv X pins σ (upd H a (.tup [p.1, p.2])) { s with heap := G1 } := Inv.laidN (s := { s with heap := G }) (t' := s.toks) I kept fa na ⟨by show 2 ≤ sizeLine; decide, [x, y], .cons rx (.cons ry .nil), ⟨_, here, rfl, _, rfl⟩⟩
    obtain ⟨H', G', J, k1, k2, k3, k4⟩ := lay_pairs as ps (upd H a (.tup [p.1, p.2])) G1 (Nat.succ.inj l) I1 (fun b o e => by
      by_cases m : b ∈ S :: as
      · rw [out1 b m] at e; cases e
      · rw [in1 b m] at e; exact e) nd'.2 (fun b m => ⟨out1 b (List.mem_cons_of_mem _ m), by rw [upd_ne (fun z => nd'.1 (by rw [← z]; exact m))]; exact (free b (List.mem_cons_of_mem _ m)).2.1, (free b (List.mem_cons_of_mem _ m)).2.2⟩) (out1 S List.mem_cons_self) (fun j b q e1 e2 => pairs (j + 1) b q e1 e2)
    refine ⟨H', G', J, k1, k2, fun b m => ?_, fun j b q e1 e2 => ?_⟩
    · rw [k3 b (fun z => m (List.mem_cons_of_mem _ z)), upd_ne (fun z => m (by rw [z]; exact List.mem_cons_self))]
    · cases j with
      | zero =>
        cases e1
        cases e2
        rw [k3 a nd'.1, upd_same]
      | succ j => exact k4 j b q e1 e2
theorem vals_at : ∀ {xs : List V} {us : List Value}, Vals xs us → ∀ (j : Nat) (x : V) (u : Value), xs[j]? = some x → us[j]? = some u → RelV x u
  | _, _, .nil, j, x, u, e, _ => by simp at e
  | _, _, .cons r rs, 0, x, u, e, f => by cases e; cases f; exact r
  | _, _, .cons r rs, j + 1, x, u, e, f => vals_at rs j x u e f
/-- list(zip(e, e2)) of two lists of one length -/
def tListZip (K : PySem.W.Frag) (ta : TA) : TE := fun σ H Q => ta σ H fun vs H1 => ∃ (a b : Addr) (xs ys : List V), vs = [.ref a, .ref b] ∧ SqL K H1 a xs ∧ SqL K H1 b ys ∧ xs.length = ys.length ∧
  ∀ (H' : Hp) (l : Addr) (as : List Addr), (∀ b o, H1 b = some o → H' b = some o) → H1 l = none → H' l = some (.lst (as.map V.ref)) → as.length = xs.length → (∀ (j : Nat) (t : Addr) (x y : V), as[j]? = some t → xs[j]? = some x → ys[j]? = some y → H' t = some (.tup [x, y])) → Q (.ref l) H'
theorem pe_listZip {X : Cx} {e e2 : Expr} {ta : TA} {p p2 pos cpos : Pos} (hc : X.calm = true) (hg : Gl X "list") (hm : X.mg "list" = none) (hgz : Gl X "zip") (hmz : X.mg "zip" = none) (ha : PA X [e, e2] ta)
    (hs : starEach [e, e2] X.env = (false, eval e X.env) :: starEach [e2] X.env := by rfl) (hpl : (backTo cpos (starEach [e2] X.env)).any (·.1) = false := by rfl)
    (na : starEach [.Call (.Name "zip" p2) [e, e2] [] cpos] X.env = (false, eval (.Call (.Name "zip" p2) [e, e2] [] cpos) X.env) :: starEach [] X.env := by rfl) :
    PE X (.Call (.Name "list" p) [.Call (.Name "zip" p2) [e, e2] [] cpos] [] pos) (tListZip X.K ta) := by
  refine ⟨fun pins s σ H Q I h => ?_⟩
  refine Call_ (ld_blt I hg hm boot_list (PyProof.Rows.callWith_type1 (args_cons ?_ na) na))
  refine Call_ (ld_blt I hgz hmz PyProof.Rows.boot_zip (PyProof.Rows.callWith_type1 (thn (ha.run cpos pins s σ H _ I h) fun us s1 ⟨vs, H1, I1, r1, q1⟩ => ?_) hs hpl))
  obtain ⟨a, b, xs, ys, rfl, hxa, hyb, len, fin⟩ := q1
  obtain ⟨its, rv, pa, _⟩ := I1.list hxa
  obtain ⟨its2, rv2, pb, _⟩ := I1.list hyb
  obtain rfl : us = [Value.ref a, .ref b] := by
    cases r1 with
    | cons r rr =>
      cases rr with
      | cons r' rr =>
        cases rr
        cases r
        cases r'
        rfl
  have l1 : its.length = xs.length := rv.length.symm
  have l2 : its2.length = ys.length := rv2.length.symm
  have fewX : xs.length ≤ sizeLine := by assumption
  refine call_zip_2 pa.isList pb.isList fun h1 hz ti to_ i1 i2 size keep => args_nil ?_
  refine zip_list (h0 := s1.heap) (s := { s1 with heap := h1 }) (n := xs.length) (I1.ok.hd hc) pa.isList pb.isList pa.lt pb.lt (by rw [List.size_toArray, l1]) (by rw [List.size_toArray, l2, len]) fewX hz ti to_ i1 i2 size keep fun h tk as out many => ?_
  have none_ : ∀ t : Nat, s1.heap.objs.size ≤ t → s1.heap.get? t = none ∧ H1 t = none := fun t lt => ⟨by
    cases e : s1.heap.get? t with
    | none => rfl
    | some o => exact absurd (Heap.lt_size e) (Nat.not_lt.mpr lt), I1.hok.fresh lt⟩
  have lt6 : ∀ t ∈ as, s1.heap.objs.size + 6 ≤ t := fun t m => (out.late t m).1
  obtain ⟨H', G', J, k1, k2, k3, k4⟩ := lay_pairs (h := h) (S := s1.heap.objs.size + 5) (s := s1) as (xs.zip ys) H1 s1.heap (by rw [List.length_zip, many]; omega) I1 out.keep (out.up.imp fun l => Nat.ne_of_lt l) (fun t m => ⟨(none_ t (by have := lt6 t m; omega)).1, (none_ t (by have := lt6 t m; omega)).2, nat_ne (by have := lt6 t m; omega)⟩) (none_ _ (by omega)).1 (fun j t q e1 e2 => by
    obtain ⟨x, y, f1, f2, f3⟩ := out.tup j t e1
    obtain ⟨g1, g2⟩ := List.getElem?_zip_eq_some.mp e2
    exact ⟨x, y, vals_at rv j _ _ g1 (by rw [← f1]; simp), vals_at rv2 j _ _ g2 (by rw [← f2]; simp), f3⟩)
  have S1 : (s1.heap.objs.size + 5) ∉ as := fun m => by have := lt6 _ m; omega
  have newS : H1 (s1.heap.objs.size + 5) = none := (none_ _ (by omega)).2
  obtain ⟨acc, c, eS, ea⟩ := out.lst
  have J2 : Inv X pins σ (upd H' (s1.heap.objs.size + 5) (.lst (as.map V.ref))) { s1 with heap := h, toks := tk } := Inv.laidN (s := { s1 with heap := G' }) (t' := tk) J k1 k2 (by rw [k3 _ S1]; exact newS) ⟨by rw [List.length_map, many]; exact fewX, acc.toList, c, by rw [ea]; exact LiI.vals_refs as, by rw [Array.toArray_toList]; exact eS⟩
  refine ⟨.ref (s1.heap.objs.size + 5), _, J2, rfl, fin _ _ as (fun t o e => ?_) newS upd_same many (fun j t x y e1 e2 e3 => ?_)⟩
  · have tn : t ≠ s1.heap.objs.size + 5 := fun z => by rw [z, newS] at e; cases e
    have tm : t ∉ as := fun m => by rw [(none_ t (by have := lt6 t m; omega)).2] at e; cases e
    rw [upd_ne tn, k3 t tm]
    exact e
  · have tn : t ≠ s1.heap.objs.size + 5 := nat_ne (by have := lt6 t (List.mem_of_getElem? e1); omega)
    rw [upd_ne tn]
    exact k4 j t (x, y) e1 (List.getElem?_zip_eq_some.mpr ⟨e2, e3⟩)
end Fz

set_option Elab.async false
set_option linter.all false
set_option maxRecDepth 100000
set_option maxHeartbeats 2000000
/-! Own layer: x & y and x &= y of two instances of one class, where the def may raise; lists of instances compared by !=. -/
namespace Fz
open PySem PySem.Spec PyProof.Rows L2
/-- no class of C's row has this name -/
def noInB (K : PySem.W.Frag) (C : Addr) (i : Str) : Bool := match PySem.W.clsIn K C with
  | some cd => cd.mro.all fun c => match PySem.W.findIn K c i with
    | some none => true
    | _ => false
  | none => false
theorem any_no {M : Model} {h : Heap} {g : Value → Sem Bool} : ∀ {l : List Value}, (∀ c ∈ l, PySem.W.Looks M h (g c) false) → PySem.W.Looks M h (l.anyM g) false
  | [], _ => .now
  | c :: r, e => (e c List.mem_cons_self).andThen (any_no fun d hd => e d (List.mem_cons_of_mem _ hd))
theorem no_fills {M : Model} {h : Heap} {K : PySem.W.Frag} {C : Addr} {nm : String} {add : Bool} (X : K.In h) (hb : noInB K C (dunderI nm) = true) : PySem.W.Looks M h (fillsInplaceSlot (.ref C) nm add) false := by
  cases hc : PySem.W.clsIn K C with
  | none => unfold noInB at hb; rw [hc] at hb; cases hb
  | some cd =>
    unfold noInB at hb
    rw [hc] at hb
    have all := List.all_eq_true.mp hb
    have Lm : PySem.W.Looks M h (mroOf (.ref C)) cd.mro := (PySem.W.looks_clsIn X hc).andThen (f := fun cd => pure cd.mro) .now
    unfold fillsInplaceSlot
    refine Lm.andThen (any_no fun c hcm => ?_)
    have q := all c hcm
    have f : PySem.W.findIn K c (dunderI nm) = some none := by
      cases e : PySem.W.findIn K c (dunderI nm) with
      | none => rw [e] at q; cases q
      | some o =>
        cases o with
        | none => rfl
        | some v => rw [e] at q; cases q
    exact (PySem.W.looks_findIn X f).andThen .now
section
variable {prog : Program} {w : World} {A : Around} {E : Value → Shared → Prop} {s : Shared} {K : PySem.W.Frag} {x C L f : Addr} {h₀ : Heap} {m : Str → Option Value} {ox : Obj} {od : Option Obj}
theorem ip_K {op : Operator} {b : Value} {Q : Value → Shared → Prop} (F : PyProof.Rows.Fr h₀ L s.heap m) (X₀ : K.In h₀) (I : PySem.W.InstAt s.heap x ox C od) (hb : PySem.W.Looks (model prog w) s.heap (typeOf b) (.ref C)) (hc : PySem.W.selfFirst K C = true) (no : noInB K C (dunderI op.info.2) = true)
    (hs : PySem.W.findIn K (.ref C) (PySem.dunder op.info.2) = some (some (.ref f))) (hf : PySem.W.isFn K (.ref f) = true)
    (h : wpAny (model prog w) A (call (.ref f) [.ref x, b]) (PySem.W.CmpBack Q) E s) : wpAny (model prog w) A (inplaceOp op (.ref x) b) Q E s := by
  have X := X₀.keeps F.keep
  obtain ⟨cd, rest, hcd, hm⟩ := PySem.W.ksp_first hc
  unfold inplaceOp
  refine wpAny_holding (wpAny_bind (I.type.here (wpAny_bind ((no_fills X no).here ?_))))
  simp only [Bool.false_eq_true, if_false]
  refine wpAny_bind (m := binaryOp1 op.info.2 (.ref x) b) ?_
  unfold binaryOp1
  refine wpAny_bind (I.type.here <| wpAny_bind <| hb.here <| wpAny_bind <| (PySem.W.fills_K X hcd hm hs).here ?_)
  simp only [beq_self_eq_true, if_true]
  refine wpAny_bind (wpAny_pure ?_)
  simp only [Bool.and_false, Bool.false_eq_true, if_false, Bool.false_and]
  refine wpAny_bind (wpAny_pure ?_)
  simp only [Bool.false_eq_true, if_false]
  refine wpAny_bind (m := tryMethod (.ref x) (PySem.dunder op.info.2) b) ?_
  unfold tryMethod
  refine wpAny_bind (PySem.W.special_fn X I hs (beq_iff_eq.mp hf) (wpAny_mono h (fun v s' got => ?_) fun _ _ z => z))
  cases v <;> first | exact got.elim | exact wpAny_pure (wpAny_pure (wpAny_pure got))
end
section
variable {X : Cx} {C f : Addr} {fd : FuncData} {ps : List Str} {sp : Sp} {k : Nat} {E : XK} {CX : CXT}
/-- x op y, both instances of C; the def may raise what E lets -/
def rBinX (C : Addr) (sp : Sp) (E : XK) : R2 := fun x y H Q => ∃ (a dx : Addr) (fs : List (Str × V)) (b dy : Addr) (gs : List (Str × V)), x = .ref a ∧ H a = some (.ins C dx fs) ∧ y = .ref b ∧ H b = some (.ins C dy gs) ∧ sp [x, y] H Q E
theorem op_binX {op : Operator} (first : PySem.W.selfFirst X.K C = true) (own : PySem.W.findIn X.K (.ref C) (PySem.dunder op.info.2) = some (some (.ref f))) (isF : PySem.W.isFn X.K (.ref f) = true) (F : FnOk X.prog X.w X.K X.mg X.base CX k f fd ps sp) (binds : L2.Binds X.K fd ps []) (room : Room k X.A) (hx : Passes CX X E) : OpR X (binaryOp op) (rBinX C sp E) := by
  intro pins s σ H x y v u Q I rx ry h
  obtain ⟨a, dx, fs, b, dy, gs, rfl, ha, rfl, hb, q⟩ := h
  cases (show v = Value.ref a from rx)
  cases (show u = Value.ref b from ry)
  obtain ⟨mA, O, _⟩ := ins_get I.hok ha
  obtain ⟨od, J, _⟩ := O.look
  obtain ⟨mB, O2, _⟩ := ins_get I.hok hb
  obtain ⟨od2, J2, _⟩ := O2.look
  obtain ⟨m, hF⟩ := I.fr
  refine PySem.W.binop_K hF I.ok.mod.kin J J2.type first own isF ?_
  refine wpAny_mono (run_fn (us := [.ref a, .ref b]) (vs := [.ref a, .ref b]) F room binds .nil hx I (.cons rfl (.cons rfl .nil)) q) (fun w s' z => ?_) fun _ _ z => z
  obtain ⟨z', H', I', rz, qz⟩ := z
  exact SlX.cmpback rz ⟨z', H', I', rz, qz⟩
/-- x op= y where the class has no such def: as x op y -/
theorem iop_binX {op : Operator} (first : PySem.W.selfFirst X.K C = true) (no : noInB X.K C (dunderI op.info.2) = true) (own : PySem.W.findIn X.K (.ref C) (PySem.dunder op.info.2) = some (some (.ref f))) (isF : PySem.W.isFn X.K (.ref f) = true) (F : FnOk X.prog X.w X.K X.mg X.base CX k f fd ps sp) (binds : L2.Binds X.K fd ps []) (room : Room k X.A) (hx : Passes CX X E) : OpR X (inplaceOp op) (rBinX C sp E) := by
  intro pins s σ H x y v u Q I rx ry h
  obtain ⟨a, dx, fs, b, dy, gs, rfl, ha, rfl, hb, q⟩ := h
  cases (show v = Value.ref a from rx)
  cases (show u = Value.ref b from ry)
  obtain ⟨mA, O, _⟩ := ins_get I.hok ha
  obtain ⟨od, J, _⟩ := O.look
  obtain ⟨mB, O2, _⟩ := ins_get I.hok hb
  obtain ⟨od2, J2, _⟩ := O2.look
  obtain ⟨m, hF⟩ := I.fr
  refine ip_K hF I.ok.mod.kin J J2.type first no own isF ?_
  refine wpAny_mono (run_fn (us := [.ref a, .ref b]) (vs := [.ref a, .ref b]) F room binds .nil hx I (.cons rfl (.cons rfl .nil)) q) (fun w s' z => ?_) fun _ _ z => z
  obtain ⟨z', H', I', rz, qz⟩ := z
  exact SlX.cmpback rz ⟨z', H', I', rz, qz⟩
end
end Fz

set_option Elab.async false
set_option linter.all false
set_option maxRecDepth 100000
set_option maxHeartbeats 2000000
/-! Own layer: != of two lists whose items are equal two by two, by the class's own ==. -/
namespace Fz
open PySem PySem.SeqAt
open AutoSeq1 (wpAny_loadPart')
open MeetsSeq MeetsSeq2 MeetsSeq3 SeqRoads2
section
variable {prog : Program} {w : World} {A : Around} {R : Result → Shared → Prop}
theorem ne_turns (one two : Addr) (N : Nat) (J : Nat → Shared → Prop) (ht : GQ.ListI prog w A (fun e s' => R (.error e) s') one two N J) (last : ∀ s, J N s → R (.ok (.ret (.bool false))) s) (left : Nat) :
    ∀ at_ : Nat, N - at_ = left → at_ ≤ N → ∀ s, J at_ s → wpAny (model prog w) A.in1 (Builtin.«list.__eq__.loop» ⟨[.ref one, .ref two, rawInt at_, rawInt 3], []⟩) (GQ.FinOf prog w A R) (fun e s' => R (.error e) s') s := by
  induction left with
  | zero =>
    intro at_ e0 e1 s here
    obtain ⟨xs, ys, n, m, h1, h2, z1, z2, _⟩ := ht _ _ here
    have e2 : at_ = N := by omega
    have goal0 : R (.ok (.ret (.bool false))) s := last s (e2 ▸ here)
    obtain ⟨hp, g, d, tk, os⟩ := s
    wp_walk using wpAny_loadPart' h1, wpAny_loadPart' h2
    have no1 : xs[((at_ : Nat) : Int).toNat]? = none := by simp; omega
    have no2 : ys[((at_ : Nat) : Int).toNat]? = none := by simp; omega
    rw [no1, no2]
    wp_walk using wpAny_loadPart' h1, wpAny_loadPart' h2
    show R (.ok (.ret (.bool (xs.size != ys.size)))) _
    rw [z1, z2]
    simpa using goal0
  | succ left again =>
    intro at_ e0 e1 s here
    obtain ⟨xs, ys, n, m, h1, h2, z1, z2, turn⟩ := ht _ _ here
    have lt1 : at_ < xs.size := by omega
    have lt2 : at_ < ys.size := by omega
    have step := turn lt1 lt2
    obtain ⟨hp, g, d, tk, os⟩ := s
    wp_walk using wpAny_loadPart' h1, wpAny_loadPart' h2
    have is1 : xs[((at_ : Nat) : Int).toNat]? = some xs[at_] := by simp [lt1]
    have is2 : ys[((at_ : Nat) : Int).toNat]? = some ys[at_] := by simp [lt2]
    have nx : ((at_ : Int) + 1) = ((at_ + 1 : Nat) : Int) := by omega
    rw [is1, is2]
    refine wpAny_bind (wpAny_mono step (fun r s2 got => ?_) fun _ _ z => z)
    obtain ⟨er, got⟩ := got
    subst er
    have more := again (at_ + 1) (by omega) (by omega) s2 got
    obtain ⟨hp2, g2, d2, tk2, os2⟩ := s2
    wp_walk
    rw [nx]
    refine ⟨plainId_quiet plain_eq_loop _, codeAny_builtin entry_eq_loop ?_⟩
    rw [Around.under_plainId plain_eq_loop _]
    exact more
theorem list_neG (one two : Addr) (N : Nat) (J : Nat → Shared → Prop) (ht : GQ.ListI prog w A (fun e s' => R (.error e) s') one two N J) (last : ∀ s, J N s → R (.ok (.ret (.bool false))) s) {s : Shared} (here : J 0 s) :
    wpAny (model prog w) A.in1 (Builtin.«list.__ne__» ⟨[.ref one, .ref two], []⟩) (GQ.FinOf prog w A R) (fun e s' => R (.error e) s') s := by
  obtain ⟨xs, ys, n, m, h1, h2, z1, z2, _⟩ := ht _ _ here
  have more := ne_turns (A := A) (R := R) one two N J ht last _ 0 rfl (Nat.zero_le _) s here
  obtain ⟨hp, g, d, tk, os⟩ := s
  have sub := AutoSeq1.sub_list_list
  have same : ¬ (xs.size != ys.size) = true := by simp [z1, z2]
  wp_walk using wpAny_loadPart' h1, wpAny_loadPart' h2
  refine ⟨plainId_quiet plain_eq_loop _, codeAny_builtin entry_eq_loop ?_⟩
  rw [Around.under_plainId plain_eq_loop _]
  exact more
end
section
variable {prog : Program} {w : World} {A : Around} {E : Value → Shared → Prop} {s : Shared}
theorem rn_listG {one two : Addr} {N : Nat} {Q : Value → Shared → Prop} (hu : A.units < cLine) (J : Nat → Shared → Prop) (ht : GQ.ListI prog w A E one two N J) (last : ∀ s, J N s → Q (.bool false) s) (here : J 0 s) : wpAny (model prog w) A (richCompare .NotEq (.ref one) (.ref two)) Q E s := by
  obtain ⟨xs, ys, n, m, h1, h2, _, _, _⟩ := ht _ _ here
  refine wpAny_richCompare_same_room (op := .NotEq) ⟨_, h1, rfl⟩ ⟨_, h2, rfl⟩ F.slot_list_ne (GQ.call_here F.slot_list_ne ⟨_, h1, rfl⟩ F.entry_list_ne (F.args_list_ne_2 _ _) ?_) hu
  exact list_neG (R := wants (fun v s' => v ≠ .notImplemented ∧ Q v s') E) one two N J ht (fun s' q => ⟨(fun x => nomatch x), last s' q⟩) here
end
end Fz
namespace Fz
open PySem PySem.Spec PyProof.Rows L2
section
variable {X : Cx} {n : Nat} {D : Eqv}
/-- x != y, two lists whose items are equal two by two -/
def rNeG (D : Eqv) : R2 := fun x y H Q => DList D x y H ∧ ∀ H', Ext H H' → Q (.bl false) H'
theorem op_neG (mono : Mon D) (h : EqG X n D) (hr : Room (n + 1) X.A) : OpR X (compareOp .NotEq) (rNeG D) := by
  intro pins s σ H x y v u Q I rx ry hq
  obtain ⟨⟨a, b, xs, ys, rfl, rfl, ha, hb, p⟩, q⟩ := hq
  cases rx
  cases ry
  show wpAny (model X.prog X.w) X.A (richCompare .NotEq (.ref a) (.ref b)) (EP X pins σ Q) X.xe s
  refine rn_listG (N := xs.length) hr.units0 (fun _ s' => LoopI X pins σ H s') (fun i s' q => ?_) (fun s' z => ?_) ⟨H, I, Ext.rfl'⟩
  · obtain ⟨G1, J1, x1⟩ := id q
    obtain ⟨c1, us, m1, ru, f1⟩ := J1.hok a _ (x1 _ _ ha)
    obtain ⟨c2, ws, m2, rw_, f2⟩ := J1.hok b _ (x1 _ _ hb)
    have l1 : us.toArray.size = xs.length := by rw [List.size_toArray, ← ru.length]
    have l2 : ws.toArray.size = xs.length := by rw [List.size_toArray, ← rw_.length, ← p.1]
    exact ⟨us.toArray, ws.toArray, m1, m2, f1, f2, l1, l2, fun g1 g2 => turnG mono h ⟨hr, rfl⟩ p ru rw_ i g1 g2 s' q⟩
  · obtain ⟨H1, I1, e1⟩ := z
    exact ⟨.bl false, H1, I1, rfl, q H1 e1⟩
end
end Fz

set_option Elab.async false
set_option linter.all false
set_option maxRecDepth 100000
set_option maxHeartbeats 4000000
/-! Own layer: a static method read off its class and called. -/
namespace Fz
open PySem PySem.Spec PyProof.Rows L2
section
variable {X : Cx} {CX : CXT} {k : Nat} {C g p : Addr} {mc : Value} {fd : FuncData} {ps : List Str} {sp : Sp} {E : XK} {o e : Expr} {es : List Expr} {m : Str} {pos apos : Pos} {ta : TE} {t : TA} {pl : Sem Bool} {rest : List Value}
/-- C.m(e, ..), m a static method of the class C -/
theorem pe_static (he : PE X o ta) (r : ClX.CRead X.K C mc) (found : PySem.W.findCls X.K (.ref C) mc m = some (.get (.builtin "staticmethod.__get__") (.ref p) .none (.ref C))) (held : PySem.W.recIn X.K p "staticmethod" = some (.ref g :: rest)) (F : FnOk X.prog X.w X.K X.mg X.base CX k g fd ps sp) (room : Room k X.A) (keep : PySem.W.keepIn X.K (.ref g) = true) (binds : L2.Binds X.K fd ps [])
    (pass : Passes CX X E) (ha : PA X (e :: es) t) (star : starEach (e :: es) X.env = (false, eval e X.env) :: starEach es X.env := by rfl) (plain : (backTo pos (starEach es X.env)).any (·.1) = false := by rfl)
    (tree : eval (.Call (.Attribute o m apos) (e :: es) [] pos) X.env = (do
      let ov ← eval o X.env
      standAt apos.atName
      let (f, first) ← holding [ov] (getMethod ov m pl)
      callWith pos f first (backTo pos (starEach (e :: es) X.env)) (backToKw pos (keywordEach [] X.env))) := by rfl) :
    PE X (.Call (.Attribute o m apos) (e :: es) [] pos) (tClsFn C sp [] E ta t) := by
  refine ⟨fun pins s σ H Q I hyp => PySem.W.methodCall_KW (pl := pl) (thn (he.run pins s σ H _ I hyp) fun u s1 ⟨x, H1, I1, rx, isC, more⟩ => ?_) tree⟩
  subst isC
  obtain rfl : u = Value.ref C := rx
  have I2 := I1.tok (s1.toks + 1)
  refine PySem.W.method_cls I1.kIn r.ga (PySem.W.cls_bind I1.kIn r.rd found ?_)
  refine wpAny_call (PySem.W.sm_get I2.kIn held (PySem.W.handed_on rfl ?_))
  exact PySem.W.callWith_K (first := []) (h₀ := X.base) I2.ok.mod.kin keep (thn (ha.run pos pins _ σ H1 _ I2 more) fun us s3 ⟨vs, H3, I3, rv, fin⟩ => ⟨I3.kIn, run_fn F room binds .nil pass I3 rv fin⟩) star plain
end
end Fz

set_option Elab.async false
set_option linter.all false
set_option maxRecDepth 100000
set_option maxHeartbeats 2000000
/-! Own layer: ~x of an instance; t.count(b) of a tuple of truths. -/
namespace Fz
open PySem PySem.Spec PyProof.Rows L2
section
variable {X : Cx} {C f : Addr} {fd : FuncData} {ps : List Str} {sp : Sp} {k : Nat}
theorem un_invO (own : PySem.W.findIn X.K (.ref C) "__invert__" = some (some (.ref f))) (isF : PySem.W.isFn X.K (.ref f) = true) (F : FnOk X.prog X.w X.K X.mg X.base CX0 k f fd ps sp) (binds : L2.Binds X.K fd ps []) (room : Room k X.A) : UnR X (unaryOp .Invert) (rInvO C sp) := by
  intro pins s σ H x v Q I rx h
  obtain ⟨a, dx, fs, rfl, ha, q⟩ := h
  obtain rfl : v = Value.ref a := rx
  obtain ⟨_, O, _⟩ := ins_get I.hok ha
  obtain ⟨od, J, _⟩ := O.look
  obtain ⟨m, hF⟩ := I.fr
  refine PySem.W.ksp_inv hF I.ok.mod.kin J own isF ?_
  exact run_fn (us := [.ref a]) (vs := [.ref a]) F room binds .nil pass0 I (.cons rfl .nil) q
/-- t.count(b) -/
def rCntB (K : PySem.W.Frag) : V → List V → Hp → VK → Prop := fun x xs H Q => ∃ (p : Addr) (bs : List Bool) (b : Bool), x = .ref p ∧ xs = [.bl b] ∧ SqT K H p (bs.map V.bl) ∧ Q (.int (bs.count b : Nat)) H
theorem depth_all_bools : ∀ bs : List Bool, PyData.depthAll (bs.map PyData.bool) = 0
  | [] => by simp [PyData.depthAll]
  | b :: r => by simp [PyData.depthAll, PyData.depth, depth_all_bools r]
theorem count_bools (b : Bool) : ∀ bs : List Bool, (bs.map PyData.bool).countP (fun y => PyData.eqv y (.bool b)) = bs.count b
  | [] => rfl
  | c :: r => by
    rw [List.map_cons, List.countP_cons, List.count_cons, count_bools b r]
    congr 1
    try (cases b <;> cases c <;> simp [PyData.eqv])
theorem mt_tcountB (units : X.A.units + 64 < cLine) : MtR X "tuple.count" (rCntB X.K) := by
  intro pins s σ H x xs v us Q I rx rxs h
  obtain ⟨p, bs, b, rfl, rfl, hs, q⟩ := h
  obtain rfl : v = Value.ref p := rx
  obtain ⟨u, rfl, ru⟩ := rxs.one
  obtain rfl : u = Value.bool b := ru
  obtain ⟨as, rd⟩ := Dp.reads I _ _ (.ref p) (Dp.tup hs (dp_bools bs)) rfl
  cases rd with
  | tuple h1 h2 h3 h4 =>
    refine PySem.SeqAt.count_tuple_data (d := .bool b) ⟨_, h1, h2, _, h3⟩ h4 (.bool b) (plain_bools bs) rfl ?_ ?_
    · rw [depth_all_bools]
      omega
    · rw [count_bools]
      exact ⟨.int _, H, I.tok _, ⟨_, rfl⟩, q⟩
end
end Fz

set_option Elab.async false
set_option linter.all false
set_option maxRecDepth 100000
set_option maxHeartbeats 2000000
namespace Fz
open PySem PySem.Spec PyProof.Rows L2
/-- one step of a reading -/
local macro_rules | `(tactic| walk_at "st") => `(tactic| first
  | refine ⟨_, rfl, ?_⟩
  | refine Or.inl ⟨_, rfl, ?_⟩
  | refine Or.inr ⟨_, rfl, ?_⟩
  | refine ⟨_, _, _, _, rfl, rfl, SqL.of (by first | assumption | exact upd_same), rfl, ?_⟩
  | refine ⟨_, _, _, _, rfl, rfl, (by first | assumption | exact upd_same), rfl, ?_⟩
  | refine ⟨_, _, rfl, .inl ⟨_, SqL.of (by first | assumption | exact upd_same), rfl⟩, ?_⟩
  | refine ⟨_, _, rfl, rfl, (show (0 : Int) < _ by first | decide | omega), ?_⟩
  | refine ⟨_, _, rfl, rfl, (show (0 : Int) < _ ∧ _ < _ by first | exact ⟨by decide, by decide⟩ | omega), ?_⟩
  | refine ⟨_, _, rfl, rfl, (show (_ < _ ∧ _ < _) ∨ (_ < _ ∧ _ < _) by first | exact .inl ⟨by decide, by decide⟩ | omega), ?_⟩
  | refine ⟨_, _, rfl, rfl, (show (0 : Int) ≤ _ ∧ _ ≤ _ ∧ _ < _ by first | exact ⟨by decide, by decide, by decide⟩ | exact ⟨by decide, by decide, by omega⟩), ?_⟩
  | refine ⟨_, _, rfl, rfl, ?_⟩)

/-! ### the text -/
def topS (i : Nat) : Stmt := PySem.Challenge.pw_freetakes_k39_size_sets_joined.main.body.getD i (.Pass ⟨0, 0, 0, 0⟩)

abbrev s_pen : Stmt := topS 26
abbrev s_draw : Stmt := topS 27
abbrev s_pick : Stmt := topS 28
section
variable {P : Program} {w : World} {K : PySem.W.Frag} {mg : Str → Option Value} {base : Heap}

theorem sc_pen : FnScope ["_law_script"] ["_law_script"] (defScope s_pen) := ⟨rfl, rfl, rfl, by decide +kernel, rfl, by decide +kernel, by decide +kernel⟩
theorem ok_pen {f : Addr} {fd : FuncData} (F : Fun K "_law_pen" "_law_pen" s_pen f fd) (T : Blt mg) : FnOk P w K mg base CX0 1 f fd ["_law_script"] (spPen K) := by
  refine F.ok sc_pen (fun vs H Q E h => ?_) (fun cdv A outer s H vs Q E hr h => ?_)
  · obtain ⟨a, ns, rfl, _⟩ := h
    rfl
  · obtain ⟨a, ns, rfl, hS, hl, k⟩ := h
    refine ⟨_, (pss_one (ps_ret (pe_lst (pa_cons (pe_callTy call_list_of rfl T.z_list (by decide +kernel) (pa_cons (pe_slice sl_list (pv 0) po_none (po_some pe_int)) pa_nil)) (pa_cons pe_int (pa_cons pe_int pa_nil)))))), ?_⟩
    refine ⟨_, rfl, _, rfl, _, _, rfl, hS, fun l0 hl0 => ⟨_, _, rfl, .inl (SqL.of upd_same), fun l1 hl1 => ⟨by show 3 ≤ sizeLine; decide, fun p hp => ?_⟩⟩⟩
    have n01 : l1 ≠ l0 := fun z => by rw [z, upd_same] at hl1; cases hl1
    have h1 : H l1 = none := by rw [upd_ne n01] at hl1; exact hl1
    have npl1 : p ≠ l1 := fun z => by rw [z, upd_same] at hp; cases hp
    have hp1 : (upd H l0 (.lst (cutV (List.map V.int ns) none (some 63)))) p = none := by rw [upd_ne npl1] at hp; exact hp
    have npl0 : p ≠ l0 := fun z => by rw [z, upd_same] at hp1; cases hp1
    have hp0 : H p = none := by rw [upd_ne npl0] at hp1; exact hp1
    have ecut : cutV (List.map V.int ns) none (some 63) = List.map V.int ns := by
      unfold cutV
      show List.take (HT.sIx (List.map V.int ns).length (List.map V.int ns).length (some (63 : Int)) - 0) (List.drop 0 (List.map V.int ns)) = _
      rw [show ((63 : Int)) = ((63 : Nat) : Int) from rfl, HT.sIx_nat, List.drop_zero, Nat.sub_zero]
      exact List.take_of_length_le (by rw [List.length_map]; omega)
    refine k _ p l1 hp0 h1 ⟨ns, 0, 0, upd_same, ?_, Ne.symm npl1, hl, Int.le_refl _, Int.le_refl _⟩ (fun b o e => ?_)
    · rw [upd_ne (Ne.symm npl1), upd_same, ecut]
    · rw [upd_ne (ne_of_none e hp0), upd_ne (ne_of_none e h1), upd_ne (ne_of_none e hl0)]
      exact e
theorem sc_draw : FnScope ["_law_pen_here", "_law_many", "_law_at", "_law_cell", "_law_mixed", "_law_digit", "_law_great"] ["_law_pen_here", "_law_many"] (defScope s_draw) := ⟨rfl, rfl, rfl, by decide +kernel, rfl, by decide +kernel, by decide +kernel⟩
theorem ok_draw {f : Addr} {fd : FuncData} (F : Fun K "_law_draw" "_law_draw" s_draw f fd) (T : Blt mg) : FnOk P w K mg base CX0 1 f fd ["_law_pen_here", "_law_many"] spDraw := by
  refine F.ok sc_draw (fun vs H Q E h => ?_) (fun cdv A outer s H vs Q E hr h => ?_)
  · obtain ⟨n, p, q, m, rfl, _⟩ := h
    rfl
  · obtain ⟨n, p, q, m, rfl, ⟨ns, spot, great, hp, hq, hqp, hl, h0, h1⟩, hn, hm, hm2, k⟩ := h
    refine ⟨_, (pss_cons (ps_if (pt_cmpR op_gt (pe_ix ix_list (pv 0) pe_int (fun _ _ => rfl)) pe_int (nomark _)) (pss_cons (ps_set (i := 5) sc_draw.nd rfl (Or.inl rfl) (pe_op op_mod (pe_callTy call_int1 rfl T.z_int (by decide +kernel) (pa_cons (pe_ix ix_list (pv 0) pe_int (fun _ _ => rfl)) pa_nil)) (pv 1)))
  (pss_cons (ps_asg (pe_op op_fdivW (pe_callTy call_int1 rfl T.z_int (by decide +kernel) (pa_cons (pe_ix ix_list (pv 0) pe_int (fun _ _ => rfl)) pa_nil)) (pv 1)) (pg_sub (pv 0) pe_int set_list))
  (pss_one (ps_ret (pv 5))))) pss_nil)
  (pss_cons (ps_set (i := 2) sc_draw.nd rfl (Or.inl rfl) (pe_ix ix_list (pv 0) pe_int (fun _ _ => rfl)))
  (pss_cons (ps_asg (pe_op op_add (pv 2) pe_int) (pg_sub (pv 0) pe_int set_list))
  (pss_cons (ps_set (i := 3) sc_draw.nd rfl (Or.inl rfl) (pe_op op_add (pe_op op_mul pe_int (pv 2)) pe_int))
  (C8.pss_cut (ps_if (pt_cmpR (op_neD hr.units) (pe_ix ix_list (pv 0) pe_int (fun _ _ => rfl)) (pe_lst pa_nil) (nomark _)) (pss_one (ps_set (i := 3) sc_draw.nd rfl (Or.inl rfl) (pe_ix ix_list (pe_ix ix_list (pv 0) pe_int (fun _ _ => rfl)) (pe_op op_mod (pe_callTy call_int1 rfl T.z_int (by decide +kernel) (pa_cons (pv 2) pa_nil)) (pe_callB call_len rfl T.z_len (by decide +kernel) (pa_cons (pe_ix ix_list (pv 0) pe_int (fun _ _ => rfl)) pa_nil))) (fun _ _ => rfl)))) pss_nil)
  (C8.pss_cut (ps_if (PW.pt (pw_and (pt_cmpR op_lt (pv 2) (pe_callB call_len rfl T.z_len (by decide +kernel) (pa_cons (pe_ix ix_list (pv 0) pe_int (fun _ _ => rfl)) pa_nil)) (nomark _)) (pw_and1 (pt_cmpR op_ge (pe_callB call_abs rfl T.z_abs (by decide +kernel) (pa_cons (pv 3) pa_nil)) (pe_op op_pow pe_int pe_int) (nomark _))))) (pss_cons (ps_set (i := 6) sc_draw.nd rfl (Or.inl rfl) (pe_op op_add (pe_op op_mul pe_int (pe_op op_sub (pe_callB call_abs rfl T.z_abs (by decide +kernel) (pa_cons (pv 3) pa_nil)) (pe_op op_pow pe_int pe_int))) (pe_callTy call_int1 rfl T.z_int (by decide +kernel) (pa_cons (pe_cmpR op_lt (pv 3) pe_int (nomark _)) pa_nil))))
  (pss_cons (ps_asg (pe_op op_fdivW (pe_callTy call_int1 rfl T.z_int (by decide +kernel) (pa_cons (pv 6) pa_nil)) (pv 1)) (pg_sub (pv 0) pe_int set_list))
  (pss_one (ps_ret (pe_op op_mod (pe_callTy call_int1 rfl T.z_int (by decide +kernel) (pa_cons (pv 6) pa_nil)) (pv 1)))))) pss_nil)
  (C8.pss_cut (ps_set (i := 4) sc_draw.nd rfl (Or.inl rfl) (pe_op op_mod (pe_callTy call_int1 rfl T.z_int (by decide +kernel) (pa_cons (pe_op op_pow (pe_op op_add (pe_op op_add (pe_op op_mod (pe_callTy call_int1 rfl T.z_int (by decide +kernel) (pa_cons (pv 3) pa_nil)) pe_int) (pe_op op_mul pe_int (pv 2))) pe_int) pe_int) pa_nil)) pe_int))
  (pss_cons (ps_set (i := 4) sc_draw.nd rfl (Or.inl rfl) (pe_op op_mod (pe_callTy call_int1 rfl T.z_int (by decide +kernel) (pa_cons (pe_op op_pow (pe_op op_add (pe_op op_add (pe_op op_mul (pv 4) (pe_op op_add (pe_op op_mul pe_int (pv 2)) pe_int)) (pe_op op_mul (pe_op op_mul pe_int (pv 2)) (pv 2))) pe_int) pe_int) pa_nil)) pe_int))
  (pss_one (ps_ret (pe_op op_mod (pe_callTy call_int1 rfl T.z_int (by decide +kernel) (pa_cons (pe_op op_fdiv (pv 4) pe_int) pa_nil)) (pv 1)))))))))))), ?_⟩
    iterate 4 walk_at "st"
    refine ite2 (fun hg => ?_) (fun hg => ?_)
    · repeat walk_at "st"
      exact k _ _ ⟨ns, spot, great / m, upd_same, by rw [upd_ne hqp]; exact hq, hqp, hl, h0, by omega⟩ Mv.here (Int.emod_nonneg _ (by omega)) (Int.emod_lt_of_pos _ hm)
    · repeat walk_at "st"
      have mul0 : spot ≤ 100000 := by omega
      refine ⟨fun σ' H' => ∃ cell : Int, σ' = [some (.ref p), some (.int m), some (.int spot), some (.int cell), none, none, none] ∧ H' p = some (.lst [.ref q, .int (spot + 1), .int great]) ∧ H' q = some (.lst (ns.map V.int)) ∧ Mv p H H', ?_, ?_⟩
      · have hq1 : upd H p (.lst [.ref q, .int (spot + 1), .int great]) q = some (.lst (ns.map V.int)) := by rw [upd_ne hqp]; exact hq
        have hp1 : upd H p (.lst [.ref q, .int (spot + 1), .int great]) p = some (.lst [.ref q, .int (spot + 1), .int great]) := upd_same
        have mv1 : Mv p H (upd H p (.lst [.ref q, .int (spot + 1), .int great])) := Mv.here
        show tIfS _ _ _ _ _ (upd H p (.lst [.ref q, .int (spot + 1), .int great]))
        generalize upd H p (.lst [.ref q, .int (spot + 1), .int great]) = H1 at hq1 hp1 mv1 ⊢
        repeat walk_at "st"
        refine ⟨Nat.zero_le _, fun l hl0 => ?_⟩
        have hp2 : upd H1 l (.lst []) p = some (.lst [.ref q, .int (spot + 1), .int great]) := by rw [upd_ne (ne_of_none hp1 hl0)]; exact hp1
        have hq2 : upd H1 l (.lst []) q = some (.lst (ns.map V.int)) := by rw [upd_ne (ne_of_none hq1 hl0)]; exact hq1
        have mv2 : Mv p H (upd H1 l (.lst [])) := mv1.trans (Mv.new hl0)
        refine ⟨_, _, Dp.lst (SqL.of hq2) (dp_ints ns), Dp.lst (SqL.of upd_same) .nil, shaped_ints ns, shaped_ints [], _, rfl, ?_⟩
        refine ite2 (fun ht => ?_) (fun _ => ⟨_, rfl, hp2, hq2, mv2⟩)
        have hne : 0 < (ns.map V.int).length := by
          cases ns with
          | nil => exact absurd ht (by decide)
          | cons z zs => rw [List.length_map]; exact Nat.succ_pos _
        have hpos : (0 : Int) < (((ns.map V.int).length : Nat) : Int) := by omega
        obtain ⟨x, hx, ax⟩ := at_mod spot hne
        obtain ⟨z, hz, rfl⟩ := List.mem_map.mp hx
        iterate 2 walk_at "st"
        iterate 2 walk_at "st"
        iterate 2 walk_at "st"
        iterate 1 walk_at "st"
        refine ⟨_, _, rfl, rfl, hpos, q, _, _, _, rfl, rfl, SqL.of hq2, ax, ?_⟩
        exact ⟨z, rfl, hp2, hq2, mv2⟩
      · rintro σ' H' ⟨cell, rfl, hp', hq', mv⟩
        have small : ∀ H'', Mv p H H'' → H'' p = some (.lst [.ref q, .int (spot + 1), .int great]) → H'' q = some (.lst (ns.map V.int)) → PenAt (n + 1) H'' p q := fun H'' _ a b => ⟨ns, spot + 1, great, a, b, hqp, hl, by omega, by omega⟩
        refine ⟨fun σ'' H'' => σ'' = [some (.ref p), some (.int m), some (.int spot), some (.int cell), none, none, none] ∧ H'' = H', ?_, ?_⟩
        · repeat walk_at "st"
          refine ite2 (fun _ => ?_) (fun _ => iteF ⟨rfl, rfl⟩)
          repeat walk_at "st"
          refine ite2 (fun _ => ?_) (fun _ => ⟨rfl, rfl⟩)
          repeat walk_at "st"
          exact k _ _ ⟨ns, spot + 1, _, upd_same, by rw [upd_ne hqp]; exact hq', hqp, hl, by omega, by omega⟩ (mv.trans Mv.here) (Int.emod_nonneg _ (by omega)) (Int.emod_lt_of_pos _ hm)
        · rintro σ'' H'' ⟨rfl, rfl⟩
          refine ⟨fun σ₂ H₂ => ∃ mixed : Int, σ₂ = [some (.ref p), some (.int m), some (.int spot), some (.int cell), some (.int mixed), none, none] ∧ 0 ≤ mixed ∧ mixed < 2147483648 ∧ H₂ = H'', ?_, ?_⟩
          · repeat walk_at "st"
            exact ⟨Int.emod_nonneg _ (by decide), Int.lt_trans (Int.emod_lt_of_pos _ (by decide)) (by decide), rfl⟩
          · rintro σ₂ H₂ ⟨mixed, rfl, m0, m1, rfl⟩
            have b1 : 0 ≤ mixed * (2 * spot + 57) := Int.mul_nonneg m0 (by omega)
            have b2 : mixed * (2 * spot + 57) ≤ 2147483648 * 300000 := Int.mul_le_mul (by omega) (by omega) (by omega) (by omega)
            have b3 : 0 ≤ 47091 * spot * spot := Int.mul_nonneg (by omega) h0
            have b4 : 47091 * spot * spot ≤ 4709100000 * 100000 := Int.mul_le_mul (by omega) (by omega) (by omega) (by omega)
            repeat walk_at "st"
            exact k _ _ (small _ mv hp' hq') mv (Int.emod_nonneg _ (by omega)) (Int.emod_lt_of_pos _ hm)
theorem sc_pick : FnScope ["_law_pen_here", "_law_some"] ["_law_pen_here", "_law_some"] (defScope s_pick) := ⟨rfl, rfl, rfl, by decide +kernel, rfl, by decide +kernel, by decide +kernel⟩
theorem ok_pick {f fD : Addr} {fd fdD : FuncData} (F : Fun K "_law_pick" "_law_pick" s_pick f fd) (T : Blt mg) (D : Fun K "_law_draw" "_law_draw" s_draw fD fdD) (gD : mg "_law_draw" = some (.ref fD)) (b_draw : L2.Binds K fdD ["_law_pen_here", "_law_many"] []) :
    FnOk P w K mg base CX0 2 f fd ["_law_pen_here", "_law_some"] (spPick K) := by
  have G_draw : FnOk P w K mg base CX0 1 fD fdD ["_law_pen_here", "_law_many"] spDraw := ok_draw D T
  refine F.ok sc_pick (fun vs H Q E h => ?_) (fun cdv A outer s H vs Q E hr h => ?_)
  · obtain ⟨n, p, q, l, xs, rfl, _⟩ := h
    rfl
  · obtain ⟨n, p, q, l, xs, rfl, hp, hn, hlp, hl, h0, h1, k⟩ := h
    refine ⟨_, (pss_one (ps_ret (pe_ix ix_list (pv 1) (pe_call G_draw (hr.mono (by decide)) rfl gD D.kp b_draw .nil pass0 (by exact (pa_cons (pv 0) (pa_cons (pe_callB call_len rfl T.z_len (by decide +kernel) (pa_cons (pv 1) pa_nil)) pa_nil)))) (fun _ _ => rfl)))), ?_⟩
    iterate 3 walk_at "st"
    refine ⟨_, _, rfl, .inl ⟨_, SqL.of hl, rfl⟩, n, p, q, _, rfl, hp, hn, by omega, small_log (by omega) (by omega), fun H' r hp' mv r0 r1 => ?_⟩
    obtain ⟨x, hx, ax⟩ := at_in r0 r1
    exact ⟨_, _, _, _, rfl, rfl, SqL.of (mv l _ hlp hl), ax, k H' x hp' mv hx⟩
end
end Fz
set_option Elab.async false
set_option linter.all false
set_option maxRecDepth 100000
set_option maxHeartbeats 2000000
namespace Fz
open PySem PySem.Spec PyProof.Rows L2
/-- one step of a reading -/
local macro_rules | `(tactic| walk_at "st") => `(tactic| first
  | refine ⟨_, rfl, ?_⟩
  | refine Or.inl ⟨_, rfl, ?_⟩
  | refine Or.inr ⟨_, rfl, ?_⟩
  | refine ⟨_, _, _, _, rfl, rfl, SqL.of (by first | assumption | exact upd_same), rfl, ?_⟩
  | refine ⟨_, _, _, _, rfl, rfl, (by first | assumption | exact upd_same), rfl, ?_⟩
  | refine ⟨_, _, rfl, .inl ⟨_, SqL.of (by first | assumption | exact upd_same), rfl⟩, ?_⟩
  | refine ⟨_, _, rfl, rfl, (show (0 : Int) < _ by first | decide | omega), ?_⟩
  | refine ⟨_, _, rfl, rfl, (show (0 : Int) < _ ∧ _ < _ by first | exact ⟨by decide, by decide⟩ | omega), ?_⟩
  | refine ⟨_, _, rfl, rfl, (show (_ < _ ∧ _ < _) ∨ (_ < _ ∧ _ < _) by first | exact .inl ⟨by decide, by decide⟩ | omega), ?_⟩
  | refine ⟨_, _, rfl, rfl, (show (0 : Int) ≤ _ ∧ _ ≤ _ ∧ _ < _ by first | exact ⟨by decide, by decide, by decide⟩ | exact ⟨by decide, by decide, by omega⟩), ?_⟩
  | refine ⟨_, _, rfl, rfl, ?_⟩)

section
variable {P : Program} {w : World} {K : PySem.W.Frag} {mg : Str → Option Value} {base : Heap}

abbrev s_lp : Stmt := topS 13
theorem sc_lp : FnScope ["again", "many", "period"] ["again"] (defScope s_lp) := ⟨rfl, rfl, rfl, by decide +kernel, rfl, by decide +kernel, by decide +kernel⟩
theorem ok_lp {f : Addr} {fd : FuncData} (F : Fun K "least_period" "least_period" s_lp f fd) (U : Blt mg) : FnOk P w K mg base CX0 1 f fd ["again"] spLeastRB := by
  refine F.ok sc_lp (fun vs H Q E h => ?_) (fun cdv A outer s H vs Q E hr h => ?_)
  · obtain ⟨l, t, ns, rfl, _⟩ := h
    rfl
  · obtain ⟨l, t, ns, rfl, hl, n1, n2, fin⟩ := h
    refine ⟨_, (pss_cons (ps_set (i := 1) sc_lp.nd rfl (Or.inl rfl) (pe_callB call_len rfl U.z_len (by decide +kernel) (pa_cons (pv 0) pa_nil)))
  (pss_cons (ps_for PassesOwn.never rfl (pi_range2 rfl U.z_range (by exact (pa_cons pe_int (pa_cons (pv 1) pa_nil)))) (pg_name (i := 2) sc_lp.nd rfl (Or.inl rfl)) (pss_one (ps_if (PW.pt (pw_and (pt_cmpR op_eq (pe_op op_mod (pv 1) (pv 2)) pe_int (nomark _)) (pw_and1 (pt_cmpR (op_eqD hr.units) (pe_slice sl_seq (pv 0) po_none (po_some (pe_op op_sub (pv 1) (pv 2)))) (pe_slice sl_seq (pv 0) (po_some (pv 2)) po_none) (nomark _))))) (pss_one (ps_ret (pv 2))) pss_nil)))
  (pss_one (ps_ret (pv 1))))), ?_⟩
    have sz : (10000 : Nat) ≤ sizeLine := by show 10000 ≤ 16777216; decide
    refine ⟨_, rfl, _, _, rfl, hl.ii.len, ?_⟩
    show ∃ _, _
    rw [List.length_map]
    refine ⟨_, rfl, 1, (ns.length : Int), rfl, ⟨by decide, by decide, by omega, by omega⟩, for_range (lo := 1) (n := ((ns.length : Int) - 1).toNat) (fun i σ' H' => ∃ v2 : Option V, σ' = [some (.ref l), some (.int (ns.length : Nat)), v2] ∧ Same H H' ∧ ∀ q, 1 ≤ q → q ≤ i → ¬ Rep (bz ns) q) ⟨_, rfl, fun _ _ z => z, fun s x y => by omega⟩ ?_ ?_⟩
    rotate_left
    · rintro σ' H' ⟨v2, rfl, s, no⟩
      refine ⟨_, rfl, fin _ ns.length s ⟨n1, by rw [bz_len]; exact Nat.le_refl _, ?_, fun q a b => no q a (by omega)⟩⟩
      have q := rep_self (r := bz ns) (by rw [bz_len]; exact n1)
      rw [bz_len] at q
      exact q
    rintro i σ' H2 hi ⟨v2, rfl, s2, no⟩
    have si : ((1 : Int) + (i : Nat)) = ((1 + i : Nat) : Int) := by omega
    have i1 : 1 + i < ns.length := by omega
    have hl2 := hl.same s2
    rw [si]
    refine ⟨_, rfl, _, rfl, _, _, rfl, rfl, by omega, rfl, _, rfl, ?_⟩
    have em : ((ns.length : Nat) : Int) % ((1 + i : Nat) : Int) = ((ns.length % (1 + i) : Nat) : Int) := rfl
    refine ite2 (fun c => ?_) (fun c => ?_)
    · have c1 : ns.length % (1 + i) = 0 := by
        have q : V.int (((ns.length : Nat) : Int) % ((1 + i : Nat) : Int)) = V.int 0 := of_decide_eq_true c
        have q1 := V.int.inj q
        rw [em] at q1
        omega
      refine ⟨_, rfl, _, rfl, _, rfl, _, _, rfl, rfl, _, rfl, hl2.cut fun p1 H3 s3 h3 => ?_⟩
      have e1 : cutV (ns.map V.bl) none (some ((ns.length : Int) - ((1 + i : Nat) : Int))) = (ns.take (ns.length - (1 + i))).map V.bl := by
        have q := cutV_take (ns.map V.bl) (ns.length - (1 + i))
        rw [show ((ns.length - (1 + i) : Nat) : Int) = (ns.length : Int) - ((1 + i : Nat) : Int) by omega] at q
        rw [q, List.map_take]
      rw [e1] at h3
      refine ⟨_, rfl, _, rfl, _, rfl, (hl2.same s3).cut fun p2 H4 s4 h4 => ?_⟩
      have e2 : cutV (ns.map V.bl) (some ((1 + i : Nat) : Int)) none = (ns.drop (1 + i)).map V.bl := by rw [cutV_drop, List.map_drop]
      rw [e2] at h4
      refine SqB.eqB (h3.same s4) h4 ⟨_, rfl, ?_⟩
      have ni := near_bz (r := ns) (p := 1 + i) (by omega) (by omega)
      refine ite2 (fun d => ?_) (fun d => ?_)
      · have d1 : ns.take (ns.length - (1 + i)) = ns.drop (1 + i) := of_decide_eq_true d
        exact ⟨_, rfl, fin _ (1 + i) ((s2.trans s3).trans s4) ⟨by omega, by rw [bz_len]; omega, ni.mpr ⟨c1, d1⟩, fun q a b => no q a (by omega)⟩⟩
      · refine ⟨_, rfl, (s2.trans s3).trans s4, fun q a b => ?_⟩
        by_cases z : q = 1 + i
        · rw [z]
          exact fun r => d (decide_eq_true (ni.mp r).2)
        · exact no q a (by omega)
    · refine iteF ⟨_, rfl, s2, fun q a b => ?_⟩
      by_cases z : q = 1 + i
      · rw [z]
        intro r
        have ni := (near_bz (r := ns) (p := 1 + i) (by omega) (by omega)).mp r
        exact c (decide_eq_true (by show V.int (((ns.length : Nat) : Int) % ((1 + i : Nat) : Int)) = V.int 0; rw [em, ni.1]; rfl))
      · exact no q a (by omega)
abbrev s_lf : Stmt := topS 12
theorem sc_lf : FnScope ["told", "begin", "period"] ["told", "begin"] (defScope s_lf) := ⟨rfl, rfl, rfl, by decide +kernel, rfl, by decide +kernel, by decide +kernel⟩
theorem ok_lf {f fLp : Addr} {fd fdLp : FuncData} (F : Fun K "least_form" "least_form" s_lf f fd) (U : Blt mg) (Lp : Fun K "least_period" "least_period" s_lp fLp fdLp) (gLp : mg "least_period" = some (.ref fLp)) (b_lp : L2.Binds K fdLp ["again"] []) : FnOk P w K mg base CX0 2 f fd ["told", "begin"] spLeastFB := by
  have G_lp : FnOk P w K mg base CX0 1 fLp fdLp ["again"] spLeastRB := ok_lp Lp U
  refine F.ok sc_lf (fun vs H Q E h => ?_) (fun cdv A outer s H vs Q E hr h => ?_)
  · obtain ⟨l, t, ns, bn, pn, rfl, _⟩ := h
    rfl
  · obtain ⟨l, t, ns, bn, pn, rfl, hl, told, few, fin⟩ := h
    refine ⟨_, (pss_cons (ps_set (i := 2) sc_lf.nd rfl (Or.inl rfl) (pe_call G_lp (hr.mono (by decide)) rfl gLp Lp.kp b_lp .nil pass0 (by exact (pa_cons (pe_slice sl_seq (pv 0) (po_some (pv 1)) po_none) pa_nil))))
  (C8.pss_cut (ps_while PassesOwn.never (pt_weak (PW.pt (pw_and (pt_cmpR op_gt (pv 1) pe_int (nomark _)) (pw_and1 (pt_cmpR op_eq (pe_ix ix_seq (pv 0) (pe_op op_sub (pv 1) pe_int) (fun _ _ => rfl)) (pe_ix ix_seq (pv 0) (pe_op op_add (pe_op op_sub (pv 1) pe_int) (pv 2)) (fun _ _ => rfl)) (nomark _)))))) (pss_one (ps_set (i := 1) sc_lf.nd rfl (Or.inl rfl) (pe_op op_sub (pv 1) pe_int))))
  (pss_one (ps_ret (pe_tup (pa_cons (pv 1) (pa_cons (pv 2) pa_nil))))))), ?_⟩
    have sz : (10000 : Nat) ≤ sizeLine := by show 10000 ≤ 16777216; decide
    have n1 := told.n1
    have len : ns.length = bn + pn := by rw [← bz_len]; exact told.len
    have dl : (ns.drop bn).length = pn := by rw [List.length_drop, len]; omega
    refine ⟨_, rfl, _, rfl, _, rfl, hl.cut fun l2 H2 s2 h2 => ?_⟩
    have ed : cutV (ns.map V.bl) (some (bn : Int)) none = (ns.drop bn).map V.bl := by rw [cutV_drop, List.map_drop]
    rw [ed] at h2
    refine ⟨l2, t, ns.drop bn, rfl, h2, by omega, by omega, fun H3 a s4 lr => ?_⟩
    have s13 := s2.trans s4
    have hl3 := hl.same s13
    have ez : bz (ns.drop bn) = (bz ns).drop bn := by unfold bz; rw [List.map_drop]
    have a2 := lr.p2
    rw [bz_len, dl] at a2
    have a1 := lr.p1
    rw [ez] at lr
    refine ⟨fun σ' H' => ∃ k : Nat, σ' = [some (.ref l), some (.int k), some (.int a)] ∧ Same H3 H' ∧ Back (bz ns) bn a k, ?_, ?_⟩
    · refine while_by (fun σ' H' => ∃ k : Nat, σ' = [some (.ref l), some (.int k), some (.int a)] ∧ Same H3 H' ∧ k ≤ bn ∧ ∀ i, k ≤ i → i < bn → ns.getD i false = ns.getD (i + a) false) (fun σ' _ => match σ'[1]? with
        | some (some (V.int k)) => k.toNat
        | _ => 0) ⟨bn, rfl, fun _ _ z => z, Nat.le_refl _, fun i a b => by omega⟩ ?_ weakT_mono
      rintro σ' H' ⟨k, rfl, s, k1, same⟩
      refine weakT_of ?_
      have at2 := (hl3.same s).ii
      refine ⟨_, rfl, _, _, rfl, rfl, _, rfl, ?_⟩
      refine ite2 (fun c => ?_) (fun c => ?_)
      · have c1 : 0 < k := by have q : (0 : Int) < (k : Int) := of_decide_eq_true c; omega
        have g1 : ns[k - 1]? = some (ns.getD (k - 1) false) := by
          rw [List.getD_eq_getElem?_getD, List.getElem?_eq_getElem (by rw [len]; omega)]
          rfl
        have g2 : ns[k - 1 + a]? = some (ns.getD (k - 1 + a) false) := by
          rw [List.getD_eq_getElem?_getD, List.getElem?_eq_getElem (by rw [len]; omega)]
          rfl
        have h1 : atI (ns.map V.bl) ((k : Int) - 1) = some (.bl (ns.getD (k - 1) false)) := by
          have q := at_nat' (xs := ns.map V.bl) (i := k - 1) (v := .bl (ns.getD (k - 1) false)) (by rw [List.getElem?_map, g1]; rfl)
          rw [show ((k - 1 : Nat) : Int) = (k : Int) - 1 by omega] at q
          exact q
        have h2 : atI (ns.map V.bl) ((k : Int) - 1 + a) = some (.bl (ns.getD (k - 1 + a) false)) := by
          have q := at_nat' (xs := ns.map V.bl) (i := k - 1 + a) (v := .bl (ns.getD (k - 1 + a) false)) (by rw [List.getElem?_map, g2]; rfl)
          rw [show ((k - 1 + a : Nat) : Int) = (k : Int) - 1 + a by omega] at q
          exact q
        refine ⟨_, rfl, _, rfl, _, _, rfl, rfl, at2.ix h1 ⟨_, rfl, _, rfl, _, _, rfl, rfl, _, rfl, _, _, rfl, rfl, at2.ix h2 ⟨rfl, _, rfl, ?_⟩⟩⟩
        refine ite2 (fun d => ?_) (fun d => ?_)
        · have d1 : ns.getD (k - 1) false = ns.getD (k - 1 + a) false := V.bl.inj (of_decide_eq_true d)
          refine ⟨_, rfl, _, _, rfl, rfl, ⟨k - 1, by rw [show ((k - 1 : Nat) : Int) = (k : Int) - 1 by omega]; rfl, s, by omega, fun i h1 h2 => ?_⟩, ?_⟩
          · by_cases e : i = k - 1
            · rw [e]; exact d1
            · exact same i (by omega) h2
          · show ((k : Int) - 1).toNat < (k : Int).toNat
            omega
        · exact ⟨k, rfl, s, back_bz k1 same (.inr fun y => d (decide_eq_true (by rw [y])))⟩
      · have c1 : k = 0 := by
          have q : ¬ (0 : Int) < (k : Int) := fun y => c (decide_eq_true y)
          omega
        exact iteF ⟨k, rfl, s, back_bz k1 same (.inl c1)⟩
    rintro σ' H4 ⟨k, rfl, s5, back⟩
    have form := prog_form told lr back
    have le := back.le
    refine ⟨_, rfl, _, rfl, by show 2 ≤ sizeLine; omega, fun u hu => ?_⟩
    exact fin _ u k a ((s13.trans s5).trans (Same.new hu)) upd_same form (by omega)
end
section
variable {P : Program} {w : World} {K : PySem.W.Frag} {mg : Str → Option Value} {base : Heap}

abbrev s_if : Stmt := topS 10
theorem sc_if : FnScope ["value", "least"] ["value", "least"] (defScope s_if) := ⟨rfl, rfl, rfl, by decide +kernel, rfl, by decide +kernel, by decide +kernel⟩
/-- an int (no bool) from lo on -/
def fromV (lo : Int) : V → Bool
  | .int i => decide (lo ≤ i)
  | _ => false
def spFrom (K : PySem.W.Frag) : Sp := fun vs H Q _ => ∃ (x : V) (lo : Int), vs = [x, .int lo] ∧ IntTy K H x ∧ Q (.bl (fromV lo x)) H
theorem ok_if {f : Addr} {fd : FuncData} (F : Fun K "is_from" "is_from" s_if f fd) (U : Blt mg) : FnOk P w K mg base CX0 1 f fd ["value", "least"] (spFrom K) := by
  refine F.ok sc_if (fun vs H Q E h => ?_) (fun cdv A outer s H vs Q E hr h => ?_)
  · obtain ⟨x, lo, rfl, _⟩ := h
    rfl
  · obtain ⟨x, lo, rfl, kd, k⟩ := h
    obtain ⟨t, ty, k1, k2⟩ := kd
    refine ⟨_, (pss_one (ps_ret (pe_and (pe_callB call_isi rfl U.z_isinstance (by decide +kernel) (pa_cons (pv 0) (pa_cons (pe_bltn (v := .ty "int") rfl U.z_int (by decide +kernel) rfl) pa_nil))) (pe_and (pe_not (pe_callB call_isi rfl U.z_isinstance (by decide +kernel) (pa_cons (pv 0) (pa_cons (pe_bltn (v := .ty "bool") rfl U.z_bool (by decide +kernel) rfl) pa_nil)))) (pe_one (pe_cmpR op_le (pv 1) (pv 0) (nomark _))))))), ?_⟩
    refine ⟨_, rfl, _, _, _, _, _, rfl, .ty "int", ty, k1, _, rfl, ?_⟩
    refine ite2 (fun i1 => ?_) (fun i1 => ?_)
    · refine ⟨_, rfl, _, _, _, _, _, rfl, .ty "bool", ty, k2, _, rfl, _, rfl, ?_⟩
      refine ite2 (fun i2 => ?_) (fun i2 => ?_)
      · obtain ⟨i, rfl⟩ : ∃ i, x = V.int i := by
          cases x with
          | int i => exact ⟨i, rfl⟩
          | bl b => exact absurd i2 Bool.false_ne_true
          | _ => exact absurd i1 Bool.false_ne_true
        exact ⟨_, rfl, _, rfl, _, _, rfl, rfl, k⟩
      · have e : fromV lo x = false := by
          cases x with
          | int i => exact absurd rfl i2
          | _ => rfl
        rw [e] at k
        cases x with
        | bl b => exact k
        | int i => exact absurd rfl i2
        | _ => exact absurd i1 Bool.false_ne_true
    · have e : fromV lo x = false := by
        cases x with
        | int i => exact absurd rfl i1
        | _ => rfl
      rw [e] at k
      cases x with
      | int i => exact absurd rfl i1
      | bl b => exact absurd rfl i1
      | _ => exact k
abbrev s_ir : Stmt := topS 19
theorem sc_ir : FnScope ["thing", "bit"] ["thing"] (defScope s_ir) := ⟨rfl, rfl, rfl, by decide +kernel, rfl, by decide +kernel, by decide +kernel⟩
def spIsRow : Sp := fun vs H Q _ => ∃ (l : Addr) (t : Bool) (bs : List Bool), vs = [.ref l] ∧ SqB t H l (bs.map V.bl) ∧ bs.length ≤ 3000 ∧ ∀ H', Same H H' → Q (.bl true) H'
theorem ok_ir {f : Addr} {fd : FuncData} (F : Fun K "is_row" "is_row" s_ir f fd) (U : Blt mg) : FnOk P w K mg base CX0 1 f fd ["thing"] spIsRow := by
  refine F.ok sc_ir (fun vs H Q E h => ?_) (fun cdv A outer s H vs Q E hr h => ?_)
  · obtain ⟨l, t, bs, rfl, _⟩ := h
    rfl
  · obtain ⟨l, t, bs, rfl, hl, few, fin⟩ := h
    refine ⟨_, (pss_one (ps_ret (pe_and (pe_callB call_isiT rfl U.z_isinstance (by decide +kernel) (pa_cons (pv 0) (pa_cons (pe_tup (pa_cons (pe_bltn (v := .ty "list") rfl U.z_list (by decide +kernel) rfl) (pa_cons (pe_bltn (v := .ty "tuple") rfl U.z_tuple (by decide +kernel) rfl) pa_nil))) pa_nil))) (pe_one (pe_callB (cr_all rfl) rfl U.z_all (by decide +kernel) (pa_cons (pe_lc (own := [("bit", 1)]) rfl sc_ir.nd (pi_seq (pv 0)) (blkOk_by (by kernel_rfl)) (fun s_ H_ C_ cl_ fp_ => (pg_name (i := 1) sc_ir.nd rfl (Or.inl rfl))) (fun s_ H_ C_ cl_ fp_ => pts_nil) (fun s_ H_ C_ cl_ fp_ => (pe_callB (id := "isinstance") (r := rIsi K) call_isi rfl U.z_isinstance (by decide +kernel) (pa_cons (pv 1) (pa_cons (pe_bltn (v := .ty "bool") rfl U.z_bool (by decide +kernel) rfl) pa_nil))))) pa_nil)))))), ?_⟩
    have sz : (10000 : Nat) ≤ sizeLine := by show 10000 ≤ 16777216; decide
    refine ⟨_, rfl, by show 2 ≤ sizeLine; omega, fun t0 ht0 => ?_⟩
    have s0 := Same.new (o := .tup [V.ty "list", .ty "tuple"]) ht0
    obtain ⟨H0, eH⟩ : ∃ H0, H0 = upd H t0 (.tup [V.ty "list", .ty "tuple"]) := ⟨_, rfl⟩
    obtain ⟨ty, tyx, kit⟩ := seq_kit (K := K) (o := some (bs.map V.bl)) ⟨l, rfl, (hl.same s0).ii⟩
    refine ⟨.ref l, t0, _, ty, _, _, rfl, upd_same, .cons (.ty "list") (.cons (.ty "tuple") .nil), tyx, kit, _, rfl, iteT ?_⟩
    rw [← eH] at s0 ⊢
    have tk : bs.take bs.length = bs := List.take_length
    have al : (bs.map fun _ : Bool => true).all id = true := by
      rw [List.all_map, List.all_eq_true]
      intro b _
      rfl
    rcases (hl.same s0).ii with hl1 | hl1
    · refine .inl ⟨_, rfl, l, rfl, ⟨_, SqL.of hl1⟩, fun D hD => ?_⟩
      refine lc_list (K := K) (a := l) (xs := bs.map V.bl) (fun i H' => Same H0 H' ∧ H' D = some (.lst (((bs.take i).map fun _ : Bool => true).map V.bl))) ⟨Same.new hD, upd_same⟩ (fun i H' _ q => SqL.of (q.1 _ _ hl1)) (fun i y H' hi q => ?_) (fun H' q => ?_)
      · have lt2 : ((bs.take i).map fun _ : Bool => true).length < sizeLine := by rw [List.length_map, List.length_take]; omega
        rw [List.getElem?_map] at hi
        obtain ⟨b, hb, rfl⟩ := Option.map_eq_some_iff.mp hi
        refine ⟨rfl, ?_⟩
        refine iteT (B := Same H0 H' ∧ H' D = some (.lst (((bs.take (i + 1)).map fun _ : Bool => true).map V.bl))) ?_
        refine ⟨_, rfl, _, _, _, _, _, rfl, .ty "bool", .base (.bl b), kit_ty (show kitB "bool" "bool" = some true by decide +kernel), _, q.2, by rw [List.length_map]; exact lt2, fun b' o e => ?_, ?_⟩
        · have nb : b' ≠ D := fun z => by rw [z, hD] at e; cases e
          rw [upd_ne nb]
          exact q.1 b' o e
        · rw [upd_same, List.take_succ, hb]
          simp
      · rw [List.length_map] at q
        refine ⟨D, bs.map fun _ => true, rfl, SqL.of (by rw [← tk]; exact q.2), ?_⟩
        rw [al]
        exact fin _ (s0.trans q.1)
    · refine .inr ⟨_, rfl, l, rfl, ⟨_, SqT.of hl1⟩, fun D hD => ?_⟩
      refine lc_it (walk_tup (K := K) (a := l) (xs := bs.map V.bl)) (fun i H' => Same H0 H' ∧ H' D = some (.lst (((bs.take i).map fun _ : Bool => true).map V.bl))) ⟨Same.new hD, upd_same⟩ (fun i H' _ q => SqT.of (q.1 _ _ hl1)) (fun i y H' H'' lt q yy => ?_) (fun H' q => ?_)
      · obtain ⟨rfl, hi⟩ := yy
        have lt2 : ((bs.take i).map fun _ : Bool => true).length < sizeLine := by rw [List.length_map, List.length_take]; omega
        rw [List.getElem?_map] at hi
        obtain ⟨b, hb, rfl⟩ := Option.map_eq_some_iff.mp hi
        refine ⟨rfl, ?_⟩
        refine iteT (B := Same H0 H'' ∧ H'' D = some (.lst (((bs.take (i + 1)).map fun _ : Bool => true).map V.bl))) ?_
        refine ⟨_, rfl, _, _, _, _, _, rfl, .ty "bool", .base (.bl b), kit_ty (show kitB "bool" "bool" = some true by decide +kernel), _, q.2, by rw [List.length_map]; exact lt2, fun b' o e => ?_, ?_⟩
        · have nb : b' ≠ D := fun z => by rw [z, hD] at e; cases e
          rw [upd_ne nb]
          exact q.1 b' o e
        · rw [upd_same, List.take_succ, hb]
          simp
      · rw [List.length_map] at q
        refine ⟨D, bs.map fun _ => true, rfl, SqL.of (by rw [← tk]; exact q.2), ?_⟩
        rw [al]
        exact fin _ (s0.trans q.1)

abbrev s_fg : Stmt := topS 20
theorem sc_fg : FnScope ["row", "bit"] ["row"] (defScope s_fg) := ⟨rfl, rfl, rfl, by decide +kernel, rfl, by decide +kernel, by decide +kernel⟩
theorem joinL0 : ∀ ps : List (List Nat), TL.joinL [] ps = ps.flatten
  | [] => rfl
  | [p] => by simp [TL.joinL]
  | p :: q :: r => by
    show p ++ ([] ++ TL.joinL [] (q :: r)) = _
    rw [joinL0 (q :: r)]
    simp
theorem tl_figs (bs : List Bool) : TL.tl (figs bs) = bs.map fun b => if b = true then 49 else 48 := by
  unfold figs
  rw [TL.join_eq, TL.tl_join, show TL.tl ("" : Str) = [] from by decide +kernel, joinL0]
  induction bs with
  | nil => rfl
  | cons b r ih =>
    rw [List.map_cons, List.map_cons, List.flatten_cons, ih, List.map_cons]
    cases b
    · show TL.tl (sgn false) ++ _ = _
      rw [show TL.tl (sgn false) = [48] from by decide +kernel]
      rfl
    · show TL.tl (sgn true) ++ _ = _
      rw [show TL.tl (sgn true) = [49] from by decide +kernel]
      rfl
theorem figs_len (bs : List Bool) : (figs bs).length = bs.length := by rw [TL.len_tl, tl_figs, List.length_map]
theorem str_e (a : Str) : Str.empty ++ a = a := by
  apply TL.ext_tl
  rw [TL.tl_append]
  rfl
theorem str_as (a b c : Str) : a ++ b ++ c = a ++ (b ++ c) := by
  apply TL.ext_tl
  rw [TL.tl_append, TL.tl_append, TL.tl_append, TL.tl_append, List.append_assoc]
def spFigs : Sp := fun vs H Q _ => ∃ (l : Addr) (bs : List Bool), vs = [.ref l] ∧ H l = some (.tup (bs.map V.bl)) ∧ bs.length ≤ 3000 ∧ ∀ H', Same H H' → Q (.str (figs bs)) H'
theorem ok_fg {f : Addr} {fd : FuncData} (F : Fun K "figures" "figures" s_fg f fd) : FnOk P w K mg base CX0 1 f fd ["row"] spFigs := by
  refine F.ok sc_fg (fun vs H Q E h => ?_) (fun cdv A outer s H vs Q E hr h => ?_)
  · obtain ⟨l, bs, rfl, _⟩ := h
    rfl
  · obtain ⟨l, ns, rfl, ht, few, fin⟩ := h
    refine ⟨_, (pss_one (ps_ret (pe_join pe_str (pe_lc (own := [("bit", 1)]) rfl sc_fg.nd (pi_tup (pv 0)) (blkOk_by (by kernel_rfl)) (fun s_ H_ C_ cl_ fp_ => (pg_name (i := 1) sc_fg.nd rfl (Or.inl rfl))) (fun s_ H_ C_ cl_ fp_ => pts_nil) (fun s_ H_ C_ cl_ fp_ => (pe_ifExp (pt_val (pv 1)) pe_str pe_str)))))), ?_⟩
    have sz : (100000 : Nat) ≤ sizeLine := by show 100000 ≤ 16777216; decide
    refine ⟨⟨_, rfl⟩, _, rfl, l, rfl, ⟨_, SqT.of ht⟩, fun D hD => ?_⟩
    refine lc_it (walk_tup (K := K) (a := l) (xs := ns.map V.bl)) (fun i H' => Same H H' ∧ H' D = some (.lst (((ns.take i).map sgn).map V.str))) ⟨Same.new hD, upd_same⟩ (fun i H' _ q => SqT.of (q.1 _ _ ht)) (fun i y H' H'' lt q yy => ?_) (fun H' q => ?_)
    · obtain ⟨rfl, hi⟩ := yy
      rw [List.length_map] at lt
      rw [List.getElem?_map, List.getElem?_eq_getElem lt] at hi
      cases hi
      refine ⟨rfl, ?_⟩
      refine iteT (B := Same H H'' ∧ H'' D = some (.lst (((ns.take (i + 1)).map sgn).map V.str))) ?_
      have app : ∀ z : Str, sgn ns[i] = z → ∃ xs, H'' D = some (.lst xs) ∧ xs.length < sizeLine ∧ (Same H (upd H'' D (.lst (xs ++ [V.str z]))) ∧ upd H'' D (.lst (xs ++ [V.str z])) D = some (.lst (((ns.take (i + 1)).map sgn).map V.str))) := fun z hz => by
        refine ⟨_, q.2, by rw [List.length_map, List.length_map, List.length_take]; omega, fun b o e => ?_, ?_⟩
        · have nb : b ≠ D := fun z => by rw [z, hD] at e; cases e
          rw [upd_ne nb]
          exact q.1 b o e
        · rw [upd_same, List.take_succ, List.getElem?_eq_getElem lt, List.map_append, List.map_append, ← hz]
          rfl
      refine ⟨_, rfl, _, rfl, ?_⟩
      refine ite2 (fun c => ?_) (fun c => ?_)
      · exact app _ (by rw [c]; rfl)
      · exact app _ (by rw [Bool.eq_false_iff.mpr c]; rfl)
    · obtain ⟨s1, hd⟩ := q
      rw [List.length_map, List.take_length] at hd
      refine ⟨_, D, ns.map sgn, rfl, rfl, .inl (SqL.of hd), ?_, fin _ s1⟩
      rw [sum_sgn, List.length_map, show ("" : Str).length = 0 from by decide +kernel]
      omega
end
end Fz
set_option Elab.async false
set_option linter.all false
set_option maxRecDepth 100000
set_option maxHeartbeats 2000000
namespace Fz
open PySem PySem.Spec PyProof.Rows L2
/-- one step of a reading -/
local macro_rules | `(tactic| walk_at "st") => `(tactic| first
  | refine ⟨_, rfl, ?_⟩
  | refine Or.inl ⟨_, rfl, ?_⟩
  | refine Or.inr ⟨_, rfl, ?_⟩
  | refine ⟨_, _, _, _, rfl, rfl, SqL.of (by first | assumption | exact upd_same), rfl, ?_⟩
  | refine ⟨_, _, _, _, rfl, rfl, (by first | assumption | exact upd_same), rfl, ?_⟩
  | refine ⟨_, _, rfl, .inl ⟨_, SqL.of (by first | assumption | exact upd_same), rfl⟩, ?_⟩
  | refine ⟨_, _, rfl, rfl, (show (0 : Int) < _ by first | decide | omega), ?_⟩
  | refine ⟨_, _, rfl, rfl, (show (0 : Int) < _ ∧ _ < _ by first | exact ⟨by decide, by decide⟩ | omega), ?_⟩
  | refine ⟨_, _, rfl, rfl, (show (_ < _ ∧ _ < _) ∨ (_ < _ ∧ _ < _) by first | exact .inl ⟨by decide, by decide⟩ | omega), ?_⟩
  | refine ⟨_, _, rfl, rfl, (show (0 : Int) ≤ _ ∧ _ ≤ _ ∧ _ < _ by first | exact ⟨by decide, by decide, by decide⟩ | exact ⟨by decide, by decide, by omega⟩), ?_⟩
  | refine ⟨_, _, rfl, rfl, ?_⟩)

section
variable {P : Program} {w : World} {K : PySem.W.Frag} {mg : Str → Option Value} {base : Heap}

abbrev s_ck : Stmt := topS 18
theorem sc_ck : FnScope ["ahead", "again"] ["ahead", "again"] (defScope s_ck) := ⟨rfl, rfl, rfl, by decide +kernel, rfl, by decide +kernel, by decide +kernel⟩
def spCheckS : Sp := fun vs H Q _ => ∃ (l1 l2 : Addr) (t1 t2 : Bool) (as gs : List Bool), vs = [.ref l1, .ref l2] ∧ SqB t1 H l1 (as.map V.bl) ∧ SqB t2 H l2 (gs.map V.bl) ∧ 1 ≤ gs.length ∧ as.length + gs.length ≤ 1000 ∧ ∀ H', Same H H' → Q .non H'
theorem ok_ck {f fIr CS : Addr} {fd fdIr : FuncData} (F : Fun K "check_rows" "check_rows" s_ck f fd) (U : Blt mg) (Ir : Fun K "is_row" "is_row" s_ir fIr fdIr) (gIr : mg "is_row" = some (.ref fIr)) (b_ir : L2.Binds K fdIr ["thing"] [])
    (gSiz : mg "Sizes" = some (.ref CS)) (rdS : ClX.CRead K CS (.type "type")) (mostS : ∃ u, ClX.CVal K CS (.type "type") "MOST" (.int 1000) u) : FnOk P w K mg base CX0 2 f fd ["ahead", "again"] spCheckS := by
  have G_ir : FnOk P w K mg base CX0 1 fIr fdIr ["thing"] spIsRow := ok_ir Ir U
  refine F.ok sc_ck (fun vs H Q E h => ?_) (fun cdv A outer s H vs Q E hr h => ?_)
  · obtain ⟨l1, l2, t1, t2, as, gs, rfl, _⟩ := h
    rfl
  · obtain ⟨l1, l2, t1, t2, as, gs, rfl, h1, h2, g1, few, fin⟩ := h
    obtain ⟨u, most⟩ := mostS
    refine ⟨_, (pss_cons (ps_if (pt_not (pt_val (pe_call G_ir (hr.mono (by decide)) rfl gIr Ir.kp b_ir .nil pass0 (by exact (pa_cons (pv 0) pa_nil))))) (pss_one (ps_never)) pss_nil)
  (pss_cons (ps_if (PW.pt (pw_or (pt_not (pt_val (pe_call G_ir (hr.mono (by decide)) rfl gIr Ir.kp b_ir .nil pass0 (by exact (pa_cons (pv 1) pa_nil))))) (pw_or1 (pt_cmpR op_eq (pe_callB call_len rfl U.z_len (by decide +kernel) (pa_cons (pv 1) pa_nil)) pe_int (nomark _))))) (pss_one (ps_never)) pss_nil)
  (pss_one (ps_if (pt_cmpR op_gt (pe_op op_add (pe_callB call_len rfl U.z_len (by decide +kernel) (pa_cons (pv 0) pa_nil)) (pe_callB call_len rfl U.z_len (by decide +kernel) (pa_cons (pv 1) pa_nil))) (ClX.pe_cval (pe_glob (v := .ref _) rfl gSiz rfl)) (nomark _)) (pss_one (ps_never)) pss_nil)))), ?_⟩
    refine ⟨_, rfl, l1, t1, as, rfl, h1, by omega, fun H1 s1 => ⟨_, rfl, iteF ?_⟩⟩
    refine ⟨_, rfl, l2, t2, gs, rfl, h2.same s1, by omega, fun H2 s2 => ⟨_, rfl, iteF ?_⟩⟩
    have s12 := s1.trans s2
    have len1 : LenV K (.ref l1) H2 as.length := by
      have q := SeqAt2.len (K := K) (h1.same s12).ii
      rw [List.length_map] at q
      exact q
    have len2 : LenV K (.ref l2) H2 gs.length := by
      have q := SeqAt2.len (K := K) (h2.same s12).ii
      rw [List.length_map] at q
      exact q
    refine ⟨_, rfl, _, _, rfl, len2, rfl, _, rfl, ?_⟩
    rw [decide_eq_false (fun z => by have := V.int.inj z; omega)]
    refine iteF ?_
    refine ⟨_, rfl, _, _, rfl, len1, _, rfl, _, _, rfl, len2, _, _, rfl, rfl, _, _, _, _, rfl, rdS, most, _, _, rfl, rfl, _, rfl, ?_⟩
    rw [decide_eq_false (fun z => by omega)]
    exact iteF (fin _ s12)
abbrev s_si : Stmt := inClass (topS 17) 1
theorem sc_si : FnScope ["self", "ahead", "again", "told", "begin", "period"] ["self", "ahead", "again"] (defScope s_si) := ⟨rfl, rfl, rfl, by decide +kernel, rfl, by decide +kernel, by decide +kernel⟩
theorem SqB.of {t : Bool} {H : Hp} {l : Addr} {xs : List V} (h : SqB t H l xs) : SqT K H l xs ∨ SqL K H l xs := by
  rcases h.ii with z | z
  · exact .inr (SqL.of z)
  · exact .inl (SqT.of z)
theorem cutV_mid (xs : List Bool) (b p : Nat) (h : b + p ≤ xs.length) : cutV (xs.map V.bl) (some (b : Int)) (some ((b : Int) + p)) = ((xs.take (b + p)).drop b).map V.bl := by
  have e : ((b : Int) + p) = ((b + p : Nat) : Int) := by omega
  unfold cutV
  rw [e, HT.sIx_nat, HT.sIx_nat, List.length_map, Nat.min_eq_left (show b + p ≤ xs.length from h), Nat.min_eq_left (show b ≤ xs.length by omega), ← List.map_drop, ← List.map_take, List.drop_take]
theorem ok_si {f fIr fCk fLp fLf CS : Addr} {fd fdIr fdCk fdLp fdLf : FuncData} (F : Fun K "__init__" "Sizes.__init__" s_si f fd) (U : Blt mg) (SC : SizC K CS) (Ir : Fun K "is_row" "is_row" s_ir fIr fdIr) (gIr : mg "is_row" = some (.ref fIr)) (b_ir : L2.Binds K fdIr ["thing"] [])
    (gSiz : mg "Sizes" = some (.ref CS)) (rdS : ClX.CRead K CS (.type "type")) (mostS : ∃ u, ClX.CVal K CS (.type "type") "MOST" (.int 1000) u)
    (Ck : Fun K "check_rows" "check_rows" s_ck fCk fdCk) (gCk : mg "check_rows" = some (.ref fCk)) (b_ck : L2.Binds K fdCk ["ahead", "again"] [])
    (Lp : Fun K "least_period" "least_period" s_lp fLp fdLp) (gLp : mg "least_period" = some (.ref fLp)) (b_lp : L2.Binds K fdLp ["again"] [])
    (Lf : Fun K "least_form" "least_form" s_lf fLf fdLf) (gLf : mg "least_form" = some (.ref fLf)) (b_lf : L2.Binds K fdLf ["told", "begin"] []) : FnOk P w K mg base CX0 4 f fd ["self", "ahead", "again"] (spSizes CS) := by
  have G_ck : FnOk P w K mg base CX0 2 fCk fdCk ["ahead", "again"] spCheckS := ok_ck Ck U Ir gIr b_ir gSiz rdS mostS
  have G_lf : FnOk P w K mg base CX0 2 fLf fdLf ["told", "begin"] spLeastFB := ok_lf Lf U Lp gLp b_lp
  refine F.ok sc_si (fun vs H Q E h => ?_) (fun cdv A outer s H vs Q E hr h => ?_)
  · obtain ⟨x, dx, l1, l2, t1, t2, as, gs, rfl, _⟩ := h
    rfl
  · obtain ⟨x, dx, l1, l2, t1, t2, as, gs, rfl, hx, h1, h2, g1, few, fin⟩ := h
    refine ⟨_, (pss_cons (ps_expr (pe_call G_ck (hr.mono (by decide)) rfl gCk Ck.kp b_ck .nil pass0 (by exact (pa_cons (pv 1) (pa_cons (pv 2) pa_nil)))))
  (pss_cons (ps_set (i := 3) sc_si.nd rfl (Or.inl rfl) (pe_tup (StX.pa_star (pv 1) (StX.pa_star (pv 2) pa_nil))))
  (pss_cons (ps_asg (pe_call G_lf (hr.mono (by decide)) rfl gLf Lf.kp b_lf .nil pass0 (by exact (pa_cons (pv 3) (pa_cons (pe_callB call_len rfl U.z_len (by decide +kernel) (pa_cons (pv 1) pa_nil)) pa_nil)))) (pg_tup rfl (pgs_cons (pg_name (i := 4) sc_si.nd rfl (Or.inl rfl)) (pgs_cons (pg_name (i := 5) sc_si.nd rfl (Or.inl rfl)) pgs_nil))))
  (pss_cons (ps_fld (pv 0) (pe_slice sl_seq (pv 3) po_none (po_some (pv 4))) rfl)
  (pss_one (ps_fld (pv 0) (pe_slice sl_seq (pv 3) (po_some (pv 4)) (po_some (pe_op op_add (pv 4) (pv 5)))) rfl)))))), ?_⟩
    have sz : (10000 : Nat) ≤ sizeLine := by show 10000 ≤ 16777216; decide
    refine ⟨_, rfl, _, rfl, l1, l2, t1, t2, as, gs, rfl, h1, h2, g1, few, fun H1 s1 => ?_⟩
    refine ⟨_, rfl, _, _, rfl, SqB.of (h1.same s1), _, rfl, _, _, rfl, SqB.of (h2.same s1), by rw [List.length_append, List.length_map, List.length_append, List.length_map]; show _ + (_ + 0) ≤ sizeLine; omega, fun tl htl => ?_⟩
    have e0 : as.map V.bl ++ (gs.map V.bl ++ []) = (as ++ gs).map V.bl := by rw [List.append_nil, List.map_append]
    rw [e0]
    have s2 := Same.new (o := .tup ((as ++ gs).map V.bl)) htl
    have hT : SqB true (upd H1 tl (.tup ((as ++ gs).map V.bl))) tl ((as ++ gs).map V.bl) := upd_same
    have len1 : LenV K (.ref l1) (upd H1 tl (.tup ((as ++ gs).map V.bl))) as.length := by
      have q := SeqAt2.len (K := K) ((h1.same s1).same s2).ii
      rw [List.length_map] at q
      exact q
    have al : (as ++ gs).length = as.length + gs.length := List.length_append ..
    refine ⟨_, rfl, _, rfl, _, _, rfl, len1, tl, true, as ++ gs, as.length, gs.length, rfl, hT, bz_told al g1, by omega, fun H3 u b p s3 hu fo le => ?_⟩
    refine ⟨u, _, rfl, SqT.of hu, rfl, _, _, rfl, _, _, rfl, rfl, ?_⟩
    have s13 := (s1.trans s2).trans s3
    have hx3 := s13 _ _ hx
    have hT3 := hT.same s3
    refine ⟨_, rfl, _, rfl, _, rfl, hT3.cut fun t H4 s4 h4 => ?_⟩
    have e1 : cutV ((as ++ gs).map V.bl) none (some (b : Int)) = (boolsW (as ++ gs) as.length gs.length b).map V.bl := by rw [cutV_take, ← List.map_take, take_boolsW al g1 (by omega)]
    rw [e1] at h4
    refine ⟨_, rfl, x, CS, dx, _, rfl, s4 _ _ hx3, SC.cl, SC.nAhead, by show 0 < 1000; decide, ?_⟩
    have hx4 := s4 _ _ hx3
    have ne : ∀ {l : Addr} {ys : List V}, H4 l = some (.tup ys) → l ≠ x := fun h z => by rw [z, hx4] at h; cases h
    have hT5 : SqB true (upd H4 x (.ins CS dx (putF "ahead" (.ref t) []))) tl ((as ++ gs).map V.bl) := by
      show upd H4 x _ tl = _
      rw [upd_ne (ne (hT3.same s4))]
      exact hT3.same s4
    refine ⟨_, rfl, _, rfl, _, rfl, _, rfl, _, rfl, _, _, rfl, rfl, _, rfl, hT5.cut fun u2 H6 s6 h6 => ?_⟩
    rw [cutV_mid _ _ _ (by rw [al]; exact le)] at h6
    have e2 : ((as ++ gs).take (b + p)).drop b = ringW (as ++ gs) as.length gs.length b p := by
      unfold ringW
      rw [take_boolsW al g1 le]
    rw [e2] at h6
    have hx6 := s6 _ _ (upd_same (H := H4) (a := x) (o := .ins CS dx (putF "ahead" (.ref t) [])))
    refine ⟨_, rfl, x, CS, dx, _, rfl, hx6, SC.cl, SC.nAgain, by show 1 < 1000; decide, ?_⟩
    have n2 : u2 ≠ x := fun z => by
      have q : H6 u2 = some (.tup _) := h6
      rw [z, hx6] at q
      cases q
    have tne := ne (show H4 t = some (.tup _) from h4)
    refine fin _ b p t u2 fo le (fun b o nb e => ?_) upd_same ?_ ?_
    · rw [upd_ne nb]
      refine s6 _ _ ?_
      rw [upd_ne nb]
      exact s4 _ _ (s13 _ _ e)
    · rw [upd_ne tne]
      refine s6 _ _ ?_
      rw [upd_ne tne]
      exact h4
    · rw [upd_ne n2]
      exact h6
abbrev s_strS : Stmt := inClass (topS 17) 7
theorem sc_strS : FnScope ["self"] ["self"] (defScope s_strS) := ⟨rfl, rfl, rfl, by decide +kernel, rfl, by decide +kernel, by decide +kernel⟩
def spStrS (CS : Addr) : Sp := fun vs H Q _ => ∃ (a : Addr) (xs gs : List Bool), vs = [.ref a] ∧ SizAt CS H a xs gs ∧ xs.length + gs.length ≤ 2000 ∧ ∀ H', Same H H' → Q (.str (textS xs gs)) H'
theorem ok_strS {CS f fFg : Addr} {fd fdFg : FuncData} (F : Fun K "__str__" "Sizes.__str__" s_strS f fd) (SC : SizC K CS) (Fg : Fun K "figures" "figures" s_fg fFg fdFg) (gFg : mg "figures" = some (.ref fFg)) (b_fg : L2.Binds K fdFg ["row"] []) : FnOk P w K mg base CX0 2 f fd ["self"] (spStrS CS) := by
  have G_fg : FnOk P w K mg base CX0 1 fFg fdFg ["row"] spFigs := ok_fg Fg
  refine F.ok sc_strS (fun vs H Q E h => ?_) (fun cdv A outer s H vs Q E hr h => ?_)
  · obtain ⟨a, xs, gs, rfl, _⟩ := h
    rfl
  · obtain ⟨a, xs, gs, rfl, ⟨dx, t, u, ha, ht, hu⟩, few, fin⟩ := h
    refine ⟨_, (pss_one (ps_ret (pe_joined (PJ.cons (pe_fmt (pe_call G_fg (hr.mono (by decide)) rfl gFg Fg.kp b_fg .nil pass0 (by exact (pa_cons (pe_fld (pv 0) rfl) pa_nil)))) (PJ.cons pe_str (PJ.cons (pe_fmt (pe_call G_fg (hr.mono (by decide)) rfl gFg Fg.kp b_fg .nil pass0 (by exact (pa_cons (pe_fld (pv 0) rfl) pa_nil)))) (PJ.cons pe_str PJ.nil))))))), ?_⟩
    have sz : sizeLine = 16777216 := rfl
    have f1 := figs_len xs
    have f2 := figs_len gs
    have l1 : ("(" : Str).length = 1 := by decide +kernel
    have l2 : (")" : Str).length = 1 := by decide +kernel
    refine ⟨_, rfl, a, CS, dx, _, _, rfl, ha, SC.cl, SC.nAhead, sfs_a _ _, t, xs, rfl, ht, by omega, fun H1 s1 => .inl ⟨_, rfl, by omega, _, rfl, by rw [str_e]; omega, _, rfl, by rw [str_e, strLen_append, l1]; omega, ?_⟩⟩
    refine ⟨_, rfl, a, CS, dx, _, _, rfl, s1 _ _ ha, SC.cl, SC.nAgain, sfs_g _ _, u, gs, rfl, s1 _ _ hu, by omega, fun H2 s2 => .inl ⟨_, rfl, by omega, _, rfl, by rw [str_e, strLen_append, strLen_append, l1]; omega, _, rfl, by rw [str_e, strLen_append, strLen_append, strLen_append, l1, l2]; omega, ?_⟩⟩
    rw [str_e]
    exact fin _ (s1.trans s2)
abbrev s_eqS : Stmt := inClass (topS 17) 6
theorem sc_eqS : FnScope ["self", "other"] ["self", "other"] (defScope s_eqS) := ⟨rfl, rfl, rfl, by decide +kernel, rfl, by decide +kernel, by decide +kernel⟩
/-- == of size sets -/
def spEqS (K : PySem.W.Frag) (CS : Addr) : Sp := fun vs H Q _ => ∃ (a : Addr) (xs gs : List Bool) (y : V), vs = [.ref a, y] ∧ SizAt CS H a xs gs ∧
  ((∃ (c : Addr) (xs' gs' : List Bool), y = .ref c ∧ SizAt CS H c xs' gs' ∧ Q (.bl (decide (xs = xs' ∧ gs = gs'))) H) ∨ ∃ t, TyX K H y t ∧ PySem.W.kitOne K t (.ref CS) = some false ∧ Q (.bl false) H)
theorem ok_eqS {CS f : Addr} {fd : FuncData} (F : Fun K "__eq__" "Sizes.__eq__" s_eqS f fd) (U : Blt mg) (gSiz : mg "Sizes" = some (.ref CS)) (SC : SizC K CS) (ty : TyC K CS) (self_ : PySem.W.kitOne K (.ref CS) (.ref CS) = some true) : FnOk P w K mg base CX0 1 f fd ["self", "other"] (spEqS K CS) := by
  refine F.ok sc_eqS (fun vs H Q E h => ?_) (fun cdv A outer s H vs Q E hr h => ?_)
  · obtain ⟨a, xs, gs, y, rfl, _⟩ := h
    rfl
  · obtain ⟨a, xs, gs, y, rfl, ⟨dx, t, u, ha, ht, hu⟩, how⟩ := h
    refine ⟨_, (pss_one (ps_ret (pe_and (pe_callB call_isi rfl U.z_isinstance (by decide +kernel) (pa_cons (pv 1) (pa_cons (pe_glob (v := .ref _) rfl gSiz rfl) pa_nil))) (pe_and (pe_cmpR (op_eqD hr.units) (pe_fld (pv 0) rfl) (pe_fld (pv 1) rfl) (nomark _)) (pe_one (pe_cmpR (op_eqD hr.units) (pe_fld (pv 0) rfl) (pe_fld (pv 1) rfl) (nomark _))))))), ?_⟩
    rcases how with ⟨c, xs', gs', rfl, ⟨dy, t', u', hc, ht', hu'⟩, fin⟩ | ⟨t', tyx, no, fin⟩
    · refine ⟨_, rfl, _, _, _, _, _, rfl, .own CS, ty.ty SC.cl hc, self_, _, rfl, iteT ?_⟩
      refine ⟨_, rfl, a, CS, dx, _, _, rfl, ha, SC.cl, SC.nAhead, sfs_a _ _, _, rfl, c, CS, dy, _, _, rfl, hc, SC.cl, SC.nAhead, sfs_a _ _, SqB.eqB (t := true) ht ht' ⟨_, rfl, ?_⟩⟩
      refine ite2 (fun e1 => ?_) (fun e1 => ?_)
      · have q1 : xs = xs' := of_decide_eq_true e1
        refine ⟨_, rfl, a, CS, dx, _, _, rfl, ha, SC.cl, SC.nAgain, sfs_g _ _, _, rfl, c, CS, dy, _, _, rfl, hc, SC.cl, SC.nAgain, sfs_g _ _, SqB.eqB (t := true) hu hu' ?_⟩
        rw [show decide (xs = xs' ∧ gs = gs') = decide (gs = gs') from by simp [q1]] at fin
        exact fin
      · have q1 : ¬ xs = xs' := fun z => e1 (decide_eq_true z)
        rw [decide_eq_false (fun z => q1 z.1)] at fin
        exact fin
    · exact ⟨_, rfl, _, _, _, _, _, rfl, .own CS, tyx, no, _, rfl, iteF fin⟩
abbrev s_boS : Stmt := inClass (topS 17) 8
theorem sc_boS : FnScope ["self"] ["self"] (defScope s_boS) := ⟨rfl, rfl, rfl, by decide +kernel, rfl, by decide +kernel, by decide +kernel⟩
def spBoS (CS : Addr) : Sp := fun vs H Q _ => ∃ (a : Addr) (xs gs : List Bool), vs = [.ref a] ∧ SizAt CS H a xs gs ∧ Q (.bl (xs.any id || gs.any id)) H
theorem ok_boS {CS f : Addr} {fd : FuncData} (F : Fun K "__bool__" "Sizes.__bool__" s_boS f fd) (U : Blt mg) (SC : SizC K CS) : FnOk P w K mg base CX0 1 f fd ["self"] (spBoS CS) := by
  refine F.ok sc_boS (fun vs H Q E h => ?_) (fun cdv A outer s H vs Q E hr h => ?_)
  · obtain ⟨a, xs, gs, rfl, _⟩ := h
    rfl
  · obtain ⟨a, xs, gs, rfl, ⟨dx, t, u, ha, ht, hu⟩, fin⟩ := h
    refine ⟨_, (pss_one (ps_ret (L2.pe_or (pe_callB (cr_anyT rfl) rfl U.z_any (by decide +kernel) (pa_cons (pe_fld (pv 0) rfl) pa_nil)) (pe_one (pe_callB (cr_anyT rfl) rfl U.z_any (by decide +kernel) (pa_cons (pe_fld (pv 0) rfl) pa_nil)))))), ?_⟩
    refine ⟨_, rfl, a, CS, dx, _, _, rfl, ha, SC.cl, SC.nAhead, sfs_a _ _, t, xs, rfl, SqT.of ht, _, rfl, ?_⟩
    cases e : xs.any id with
    | true =>
      rw [e] at fin
      exact iteT fin
    | false =>
      rw [e] at fin
      exact iteF ⟨_, rfl, a, CS, dx, _, _, rfl, ha, SC.cl, SC.nAgain, sfs_g _ _, u, gs, rfl, SqT.of hu, fin⟩
abbrev s_coS : Stmt := inClass (topS 17) 9
theorem sc_coS : FnScope ["self", "x", "place"] ["self", "x"] (defScope s_coS) := ⟨rfl, rfl, rfl, by decide +kernel, rfl, by decide +kernel, by decide +kernel⟩
/-- v in sizes -/
def hasB (xs gs : List Bool) : V → Bool
  | .int i => decide (1 ≤ i) && sizB xs gs (i - 1).toNat
  | _ => false
def spCoS (K : PySem.W.Frag) (CS : Addr) : Sp := fun vs H Q _ => ∃ (a : Addr) (xs gs : List Bool) (v : V), vs = [.ref a, v] ∧ SizAt CS H a xs gs ∧ 1 ≤ gs.length ∧ xs.length + gs.length ≤ 3000 ∧ IntTy K H v ∧ Q (.bl (hasB xs gs v)) H
theorem ok_coS {CS f fIf : Addr} {fd fdIf : FuncData} (F : Fun K "__contains__" "Sizes.__contains__" s_coS f fd) (U : Blt mg) (SC : SizC K CS) (If : Fun K "is_from" "is_from" s_if fIf fdIf) (gIf : mg "is_from" = some (.ref fIf)) (b_if : L2.Binds K fdIf ["value", "least"] []) : FnOk P w K mg base CX0 2 f fd ["self", "x"] (spCoS K CS) := by
  have G_if : FnOk P w K mg base CX0 1 fIf fdIf ["value", "least"] (spFrom K) := ok_if If U
  refine F.ok sc_coS (fun vs H Q E h => ?_) (fun cdv A outer s H vs Q E hr h => ?_)
  · obtain ⟨a, xs, gs, v, rfl, _⟩ := h
    rfl
  · obtain ⟨a, xs, gs, v, rfl, ⟨dx, t, u, ha, ht, hu⟩, g1, few, kd, fin⟩ := h
    refine ⟨_, (pss_cons (ps_if (pt_not (pt_val (pe_call G_if (hr.mono (by decide)) rfl gIf If.kp b_if .nil pass0 (by exact (pa_cons (pv 1) (pa_cons pe_int pa_nil)))))) (pss_one (ps_ret pe_bl)) pss_nil)
  (pss_cons (ps_set (i := 2) sc_coS.nd rfl (Or.inl rfl) (pe_op op_sub (pv 1) pe_int))
  (pss_cons (ps_if (pt_cmpR op_lt (pv 2) (pe_callB call_len rfl U.z_len (by decide +kernel) (pa_cons (pe_fld (pv 0) rfl) pa_nil)) (nomark _)) (pss_one (ps_ret (pe_ix ix_tup (pe_fld (pv 0) rfl) (pv 2) (fun _ _ => rfl)))) pss_nil)
  (pss_one (ps_ret (pe_ix ix_tup (pe_fld (pv 0) rfl) (pe_op op_mod (pe_op op_sub (pv 2) (pe_callB call_len rfl U.z_len (by decide +kernel) (pa_cons (pe_fld (pv 0) rfl) pa_nil))) (pe_callB call_len rfl U.z_len (by decide +kernel) (pa_cons (pe_fld (pv 0) rfl) pa_nil))) (fun _ _ => rfl))))))), ?_⟩
    refine ⟨_, rfl, v, 1, rfl, kd, _, rfl, ?_⟩
    cases e : fromV 1 v with
    | false =>
      have q : hasB xs gs v = false := by
        cases v with
        | int i =>
          show (decide (1 ≤ i) && _) = false
          rw [show decide ((1 : Int) ≤ i) = false from e]
          rfl
        | _ => rfl
      rw [q] at fin
      exact iteT fin
    | true =>
      obtain ⟨i, rfl⟩ : ∃ i, v = V.int i := by
        cases v with
        | int i => exact ⟨i, rfl⟩
        | _ => cases e
      have i1 : (1 : Int) ≤ i := of_decide_eq_true e
      obtain ⟨h, eh⟩ := Int.eq_ofNat_of_zero_le (show 0 ≤ i - 1 by omega)
      have q : hasB xs gs (.int i) = sizB xs gs h := by
        show (decide (1 ≤ i) && sizB xs gs (i - 1).toNat) = _
        rw [decide_eq_true i1, Bool.true_and, eh, Int.toNat_natCast]
      rw [q] at fin
      refine iteF ?_
      refine ⟨_, rfl, _, _, rfl, rfl, ?_⟩
      have lx : LenV K (.ref t) H xs.length := by
        have q := SeqAt2.len (K := K) (.inr ht)
        rw [List.length_map] at q
        exact q
      have lg : LenV K (.ref u) H gs.length := by
        have q := SeqAt2.len (K := K) (.inr hu)
        rw [List.length_map] at q
        exact q
      dsimp only
      rw [show (i - 1 : Int) = (h : Int) from eh]
      refine ⟨_, rfl, _, rfl, a, CS, dx, _, _, rfl, ha, SC.cl, SC.nAhead, sfs_a _ _, _, _, rfl, lx, _, _, rfl, rfl, _, rfl, ?_⟩
      refine ite2 (fun c => ?_) (fun c => ?_)
      · have c1 : h < xs.length := by have z : (h : Int) < (xs.length : Int) := of_decide_eq_true c; omega
        have fin2 := fin
        unfold sizB at fin2
        rw [if_pos c1] at fin2
        refine ⟨_, rfl, a, CS, dx, _, _, rfl, ha, SC.cl, SC.nAhead, sfs_a _ _, _, rfl, t, _, _, .bl (xs.getD h false), rfl, rfl, SqT.of ht, at_nat' ?_, fin2⟩
        rw [List.getElem?_map, List.getD_eq_getElem?_getD, List.getElem?_eq_getElem c1]
        rfl
      · have c1 : ¬ h < xs.length := fun y => c (decide_eq_true (by omega))
        have fin2 := fin
        unfold sizB at fin2
        rw [if_neg c1] at fin2
        have m := Nat.mod_lt (h - xs.length) (show gs.length > 0 by omega)
        have em : ((h : Int) - (xs.length : Int)) % (gs.length : Int) = (((h - xs.length) % gs.length : Nat) : Int) := by
          rw [show (h : Int) - (xs.length : Int) = ((h - xs.length : Nat) : Int) by omega]
          rfl
        refine ⟨_, rfl, a, CS, dx, _, _, rfl, ha, SC.cl, SC.nAgain, sfs_g _ _, _, rfl, _, rfl, a, CS, dx, _, _, rfl, ha, SC.cl, SC.nAhead, sfs_a _ _, _, _, rfl, lx, _, _, rfl, rfl, _, rfl, a, CS, dx, _, _, rfl, ha, SC.cl, SC.nAgain, sfs_g _ _, _, _, rfl, lg, _, _, rfl, rfl, by omega, u, _, _, .bl (gs.getD ((h - xs.length) % gs.length) false), rfl, rfl, SqT.of hu, ?_, fin2⟩
        show atI _ (((h : Int) - (xs.length : Int)) % (gs.length : Int)) = _
        rw [em]
        refine at_nat' ?_
        rw [List.getElem?_map, List.getD_eq_getElem?_getD, List.getElem?_eq_getElem m]
        rfl
end
end Fz
set_option Elab.async false
set_option linter.all false
set_option maxRecDepth 100000
set_option maxHeartbeats 2000000
namespace Fz
open PySem PySem.Spec PyProof.Rows L2
/-- one step of a reading -/
local macro_rules | `(tactic| walk_at "st") => `(tactic| first
  | refine ⟨_, rfl, ?_⟩
  | refine Or.inl ⟨_, rfl, ?_⟩
  | refine Or.inr ⟨_, rfl, ?_⟩
  | refine ⟨_, _, _, _, rfl, rfl, SqL.of (by first | assumption | exact upd_same), rfl, ?_⟩
  | refine ⟨_, _, _, _, rfl, rfl, (by first | assumption | exact upd_same), rfl, ?_⟩
  | refine ⟨_, _, rfl, .inl ⟨_, SqL.of (by first | assumption | exact upd_same), rfl⟩, ?_⟩
  | refine ⟨_, _, rfl, rfl, (show (0 : Int) < _ by first | decide | omega), ?_⟩
  | refine ⟨_, _, rfl, rfl, (show (0 : Int) < _ ∧ _ < _ by first | exact ⟨by decide, by decide⟩ | omega), ?_⟩
  | refine ⟨_, _, rfl, rfl, (show (_ < _ ∧ _ < _) ∨ (_ < _ ∧ _ < _) by first | exact .inl ⟨by decide, by decide⟩ | omega), ?_⟩
  | refine ⟨_, _, rfl, rfl, (show (0 : Int) ≤ _ ∧ _ ≤ _ ∧ _ < _ by first | exact ⟨by decide, by decide, by decide⟩ | exact ⟨by decide, by decide, by omega⟩), ?_⟩
  | refine ⟨_, _, rfl, rfl, ?_⟩)

section
variable {P : Program} {w : World} {K : PySem.W.Frag} {mg : Str → Option Value} {base : Heap}

abbrev s_ri : Stmt := topS 21
theorem sc_ri : FnScope ["text", "again", "ahead", "_", "rest", "sign"] ["text"] (defScope s_ri) := ⟨rfl, rfl, rfl, by decide +kernel, rfl, by decide +kernel, by decide +kernel⟩
theorem figs_cps (bs : List Bool) : (figs bs).cps.toList = bs.map fun b => if b = true then 49 else 48 := tl_figs bs
theorem figs_at {bs : List Bool} {i c : Nat} (h : (figs bs).cps[i]? = some c) : ∃ b, bs[i]? = some b ∧ (⟨#[c]⟩ : Str) = sgn b := by
  rw [← Array.getElem?_toList, figs_cps, List.getElem?_map] at h
  obtain ⟨b, hb, rfl⟩ := Option.map_eq_some_iff.mp h
  refine ⟨b, hb, ?_⟩
  cases b <;> decide +kernel
theorem figs_app (xs gs : List Bool) : figs xs ++ figs gs = figs (xs ++ gs) := by
  apply TL.ext_tl
  rw [TL.tl_append, tl_figs, tl_figs, tl_figs, List.map_append]
theorem sIx_m1 (n d : Nat) : HT.sIx n d (some (-1)) = n - 1 := by
  show (if (-1 : Int) < 0 then ((-1 : Int) + (n : Int)).toNat else min (-1 : Int).toNat n) = n - 1
  rw [if_pos (by decide)]
  omega
theorem cut_last (a : Str) : cutS (a ++ ")") (some (-1)) none = ")" := by
  apply TL.ext_tl
  have l : (a ++ (")" : Str)).length = a.length + 1 := by rw [strLen_append]; rfl
  show ((a ++ (")" : Str)).cps.toList.drop (HT.sIx (a ++ (")" : Str)).length 0 (some (-1)))).take (HT.sIx (a ++ (")" : Str)).length (a ++ (")" : Str)).length none - HT.sIx (a ++ (")" : Str)).length 0 (some (-1))) = _
  rw [sIx_m1, HT.sIx_none, l]
  have e : (a ++ (")" : Str)).cps.toList = TL.tl a ++ [41] := by
    show TL.tl (a ++ (")" : Str)) = _
    rw [TL.tl_append]
    rfl
  have la : a.length = (TL.tl a).length := TL.len_tl a
  rw [e, show a.length + 1 - 1 = (TL.tl a).length by omega, List.drop_left, show a.length + 1 - (TL.tl a).length = 1 by omega]
  rfl
theorem cut_init (a : Str) : cutS (a ++ ")") none (some (-1)) = a := by
  apply TL.ext_tl
  have l : (a ++ (")" : Str)).length = a.length + 1 := by rw [strLen_append]; rfl
  show ((a ++ (")" : Str)).cps.toList.drop (HT.sIx (a ++ (")" : Str)).length 0 none)).take (HT.sIx (a ++ (")" : Str)).length (a ++ (")" : Str)).length (some (-1)) - HT.sIx (a ++ (")" : Str)).length 0 none) = _
  rw [sIx_m1, HT.sIx_none, l]
  have e : (a ++ (")" : Str)).cps.toList = TL.tl a ++ [41] := by
    show TL.tl (a ++ (")" : Str)) = _
    rw [TL.tl_append]
    rfl
  have la : a.length = (TL.tl a).length := TL.len_tl a
  rw [e, List.drop_zero, Nat.sub_zero, show a.length + 1 - 1 = (TL.tl a).length by omega, List.take_left]
theorem text_parts (xs gs : List Bool) : Txt.partition (textS xs gs) "(" = (figs xs, ("(" : Str), figs gs ++ (")" : Str)) := by
  unfold textS
  rw [str_as]
  refine TL.partition_app (s := 40) (S := []) (by decide +kernel) fun h => ?_
  rw [tl_figs] at h
  obtain ⟨b, _, e⟩ := List.mem_map.mp h
  cases b <;> cases e
def spRowsIn : Sp := fun vs H Q _ => ∃ xs gs : List Bool, vs = [.str (textS xs gs)] ∧ 1 ≤ gs.length ∧ xs.length + gs.length ≤ 1000 ∧ ∀ H' u, Same H H' → H' u = some (.tup [.str (figs xs), .str (figs gs)]) → Q (.ref u) H'
theorem ok_ri {f CS : Addr} {fd : FuncData} (F : Fun K "rows_in" "rows_in" s_ri f fd) (U : Blt mg) (gSiz : mg "Sizes" = some (.ref CS)) (rdS : ClX.CRead K CS (.type "type")) (mostS : ∃ u, ClX.CVal K CS (.type "type") "MOST" (.int 1000) u) : FnOk P w K mg base CX0 1 f fd ["text"] spRowsIn := by
  refine F.ok sc_ri (fun vs H Q E h => ?_) (fun cdv A outer s H vs Q E hr h => ?_)
  · obtain ⟨xs, gs, rfl, _⟩ := h
    rfl
  · obtain ⟨xs, gs, rfl, g1, few, fin⟩ := h
    obtain ⟨u0, most⟩ := mostS
    refine ⟨_, (pss_cons (ps_if (PW.pt (pw_or (pt_not (pt_val (pe_callB call_isi rfl U.z_isinstance (by decide +kernel) (pa_cons (pv 0) (pa_cons (pe_bltn (v := .ty "str") rfl U.z_str (by decide +kernel) rfl) pa_nil))))) (pw_or (pt_cmpR op_gt (pe_callB call_len rfl U.z_len (by decide +kernel) (pa_cons (pv 0) pa_nil)) (pe_op op_add (ClX.pe_cval (pe_glob (v := .ref _) rfl gSiz rfl)) pe_int) (nomark _)) (pw_or1 (pt_cmpR op_ne (pe_slice sl_str (pv 0) (po_some (pe_un un_neg pe_int)) po_none) pe_str (nomark _)))))) (pss_one (ps_ret pe_non)) pss_nil)
  (pss_cons (ps_asg (pe_partition (pv 0) pe_str) (pg_tup rfl (pgs_cons (pg_name (i := 2) sc_ri.nd rfl (Or.inl rfl)) (pgs_cons (pg_name (i := 3) sc_ri.nd rfl (Or.inl rfl)) (pgs_cons (pg_name (i := 4) sc_ri.nd rfl (Or.inl rfl)) pgs_nil)))))
  (C8.pss_cut (ps_set (i := 1) sc_ri.nd rfl (Or.inl rfl) (pe_slice sl_str (pv 4) po_none (po_some (pe_un un_neg pe_int))))
  (pss_cons (ps_if (PW.pt (pw_or (pt_cmpR op_eq (pv 1) pe_str (nomark _)) (pw_or1 (pt_not (pt_val (pe_callB (cr_all rfl) rfl U.z_all (by decide +kernel) (pa_cons (pe_lc (own := [("sign", 5)]) rfl sc_ri.nd (pi_str (pe_op op_add_str (pv 2) (pv 1))) (blkOk_by (by kernel_rfl)) (fun s_ H_ C_ cl_ fp_ => (pg_name (i := 5) sc_ri.nd rfl (Or.inl rfl))) (fun s_ H_ C_ cl_ fp_ => pts_nil) (fun s_ H_ C_ cl_ fp_ => (pe_cmpR op_in_str (pv 5) pe_str (by rfl)))) pa_nil))))))) (pss_one (ps_ret pe_non)) pss_nil)
  (pss_one (ps_ret (pe_tup (pa_cons (pv 2) (pa_cons (pv 1) pa_nil))))))))), ?_⟩
    have sz : sizeLine = 16777216 := rfl
    have f1 := figs_len xs
    have f2 := figs_len gs
    have l1 : ("(" : Str).length = 1 := by decide +kernel
    have l2 : (")" : Str).length = 1 := by decide +kernel
    have tl : (textS xs gs).length = xs.length + gs.length + 2 := by
      unfold textS
      rw [strLen_append, strLen_append, strLen_append, f1, f2, l1, l2]
      omega
    refine ⟨_, rfl, _, _, _, _, _, rfl, .ty "str", .base (.str _), kit_ty (show kitB "str" "str" = some true by decide +kernel), _, rfl, iteF ?_⟩
    refine ⟨_, rfl, _, _, rfl, (show LenV K (.str (textS xs gs)) H (textS xs gs).length from ⟨by omega, rfl⟩), _, _, _, _, rfl, rdS, most, _, _, rfl, rfl, _, _, rfl, rfl, _, rfl, ?_⟩
    rw [decide_eq_false (fun z => by rw [tl] at z; omega)]
    refine iteF ?_
    refine ⟨_, rfl, _, rfl, _, rfl, _, rfl, by omega, rfl, _, rfl, ?_⟩
    have e1 : cutS (textS xs gs) (some (-1)) none = ")" := cut_last _
    have e1' : cutS (textS xs gs) (some ((fun i : Int => -i) 1)) none = ")" := e1
    refine ite2 (fun c => ?_) (fun _ => ?_)
    · exfalso
      have c2 : (!decide (V.str (cutS (textS xs gs) (some (-1)) none) = V.str ")")) = true := c
      rw [e1, decide_eq_true rfl] at c2
      cases c2
    refine ⟨_, rfl, ⟨_, rfl⟩, _, _, rfl, rfl, by decide +kernel, by omega, fun t ht => ?_⟩
    rw [text_parts]
    have s1 := Same.new (o := .tup [V.str (figs xs), .str "(", .str (figs gs ++ ")")]) ht
    refine ⟨t, _, rfl, SqT.of upd_same, rfl, _, _, rfl, _, _, rfl, _, _, rfl, rfl, ?_⟩
    have l3 : (figs gs ++ (")" : Str)).length = gs.length + 1 := by rw [strLen_append, f2, l2]
    refine ⟨fun σ' H' => ∃ (v3 v4 v5 : Option V), σ' = [some (.str (textS xs gs)), some (.str (figs gs)), some (.str (figs xs)), v3, v4, v5] ∧ Same H H', ?_, ?_⟩
    · refine ⟨_, rfl, _, rfl, _, rfl, _, rfl, by show (figs gs ++ (")" : Str)).length ≤ sizeLine; omega, ?_⟩
      have e2 : cutS (figs gs ++ ")") none (some (-1)) = figs gs := cut_init _
      refine ⟨some (.str "("), some (.str (figs gs ++ ")")), none, ?_, s1⟩
      show [some (V.str (textS xs gs)), some (V.str (cutS (figs gs ++ (")" : Str)) none (some (-1)))), some (V.str (figs xs)), some (V.str "("), some (V.str (figs gs ++ (")" : Str))), none] = _
      rw [e2]
    rintro σ' H1 ⟨v3, v4, v5, rfl, s2⟩
    refine ⟨_, rfl, rfl, _, rfl, ?_⟩
    refine ite2 (fun c => ?_) (fun _ => ?_)
    · exfalso
      have c2 : figs gs = ("" : Str) := V.str.inj (of_decide_eq_true c)
      have z := congrArg Str.length c2
      rw [f2, show ("" : Str).length = 0 from by decide +kernel] at z
      omega
    refine ⟨_, rfl, _, rfl, _, _, rfl, rfl, by omega, _, rfl, fun D hD => ?_⟩
    rw [figs_app]
    have fl := figs_len (xs ++ gs)
    have cz : (figs (xs ++ gs)).cps.size = (xs ++ gs).length := fl
    have al : (xs ++ gs).length = xs.length + gs.length := List.length_append ..
    refine lc_it (walk_str (z := figs (xs ++ gs))) (fun i H' => Same H1 H' ∧ H' D = some (.lst ((List.replicate i true).map V.bl))) ⟨Same.new hD, upd_same⟩ (fun i H' _ q => True.intro) (fun i y H' H'' lt q yy => ?_) (fun H' q => ?_)
    · obtain ⟨rfl, c, hc, rfl⟩ := yy
      obtain ⟨b, hb, eb⟩ := figs_at hc
      have inn : (!(Builtin.Str.occurrences "01" (⟨#[c]⟩ : Str) 0 ("01" : Str).length 1).isEmpty) = true := by
        rw [eb]
        cases b <;> decide +kernel
      refine ⟨rfl, ?_⟩
      refine iteT (B := Same H1 H'' ∧ H'' D = some (.lst ((List.replicate (i + 1) true).map V.bl))) ?_
      refine ⟨_, rfl, _, _, rfl, rfl, _, q.2, by rw [List.length_map, List.length_replicate]; omega, fun b' o e => ?_, ?_⟩
      · have nb : b' ≠ D := fun z => by rw [z, hD] at e; cases e
        rw [upd_ne nb]
        exact q.1 b' o e
      · rw [upd_same, inn, List.replicate_succ', List.map_append]
        rfl
    · refine ⟨D, List.replicate (figs (xs ++ gs)).cps.size true, rfl, SqL.of q.2, _, rfl, ?_⟩
      have all_ : (List.replicate (figs (xs ++ gs)).cps.size true).all id = true := by
        rw [List.all_eq_true]
        intro b hb
        rw [(List.mem_replicate.mp hb).2]
        rfl
      rw [all_]
      refine iteF ?_
      refine ⟨_, rfl, _, rfl, by show 2 ≤ sizeLine; omega, fun u hu => ?_⟩
      exact fin _ u ((s2.trans q.1).trans (Same.new hu)) upd_same
end
end Fz
set_option Elab.async false
set_option linter.all false
set_option maxRecDepth 100000
set_option maxHeartbeats 2000000
namespace Fz
open PySem PySem.Spec PyProof.Rows L2
/-- one step of a reading -/
local macro_rules | `(tactic| walk_at "st") => `(tactic| first
  | refine ⟨_, rfl, ?_⟩
  | refine Or.inl ⟨_, rfl, ?_⟩
  | refine Or.inr ⟨_, rfl, ?_⟩
  | refine ⟨_, _, _, _, rfl, rfl, SqL.of (by first | assumption | exact upd_same), rfl, ?_⟩
  | refine ⟨_, _, _, _, rfl, rfl, (by first | assumption | exact upd_same), rfl, ?_⟩
  | refine ⟨_, _, rfl, .inl ⟨_, SqL.of (by first | assumption | exact upd_same), rfl⟩, ?_⟩
  | refine ⟨_, _, rfl, rfl, (show (0 : Int) < _ by first | decide | omega), ?_⟩
  | refine ⟨_, _, rfl, rfl, (show (0 : Int) < _ ∧ _ < _ by first | exact ⟨by decide, by decide⟩ | omega), ?_⟩
  | refine ⟨_, _, rfl, rfl, (show (_ < _ ∧ _ < _) ∨ (_ < _ ∧ _ < _) by first | exact .inl ⟨by decide, by decide⟩ | omega), ?_⟩
  | refine ⟨_, _, rfl, rfl, (show (0 : Int) ≤ _ ∧ _ ≤ _ ∧ _ < _ by first | exact ⟨by decide, by decide, by decide⟩ | exact ⟨by decide, by decide, by omega⟩), ?_⟩
  | refine ⟨_, _, rfl, rfl, ?_⟩)

section
variable {P : Program} {w : World} {K : PySem.W.Frag} {mg : Str → Option Value} {base : Heap}

abbrev s_rd : Stmt := inClass (topS 17) 5
theorem sc_rd : FnScope ["cls", "text", "rows", "read", "sign"] ["cls", "text"] (defScope s_rd) := ⟨rfl, rfl, rfl, by decide +kernel, rfl, by decide +kernel, by decide +kernel⟩
section
variable {CS x dx : Addr} {H : Hp} {as gs : List Bool} {E : XK} {σ : L2.St} {Q : VK} {ta : TA}
/-- Sizes(as, gs) -/
theorem sizN_box (args : ∀ R : List V → Hp → Prop, (∀ H1 l1 l2 t1 t2, Same H H1 → SqB t1 H1 l1 (as.map V.bl) → SqB t2 H1 l2 (gs.map V.bl) → R [.ref l1, .ref l2] H1) → ta σ H R) (g1 : 1 ≤ gs.length) (few : as.length + gs.length ≤ 1000)
    (fin : ∀ H' x b p, Same H H' → Form (atW (bz (as ++ gs)) as.length gs.length) b p → b + p ≤ as.length + gs.length → SizAt CS H' x (boolsW (as ++ gs) as.length gs.length b) (ringW (as ++ gs) as.length gs.length b p) → Q (.ref x) H') : Box (tMake CS (spSizes CS) [] E ta) σ H Q :=
  ⟨args _ fun H1 l1 l2 t1 t2 s h1 h2 => fun x dx hx hdx _ => sizes_made (G := fun H' => Q (.ref x) H') h1 h2 g1 few hx hdx fun H' b p s1 f le at_ => fin H' x b p (s.trans s1) f le at_⟩
theorem strS_box {i : Nat} {xs : List Bool} (vi : σ[i]? = some (some (.ref x))) (hx : SizAt CS H x xs gs) (few : xs.length + gs.length ≤ 2000) (fin : ∀ H', Same H H' → Q (.str (textS xs gs)) H') : Box (tCB (rStrO CS (spStrS CS)) (tCons (tVar i) tNil)) σ H Q := by
  obtain ⟨dx, t, u, a, b, c⟩ := hx
  exact ⟨_, vi, x, dx, _, rfl, a, x, xs, gs, rfl, ⟨dx, t, u, a, b, c⟩, few, fun H' s => ⟨_, rfl, fin H' s⟩⟩
end
theorem sgn_one {c : Nat} {b : Bool} (e : (⟨#[c]⟩ : Str) = sgn b) : decide (V.str ⟨#[c]⟩ = V.str "1") = b := by
  rw [e]
  cases b <;> decide +kernel
theorem ne_self {v : V} (h : (!decide (v = v)) = true) : False := by
  rw [decide_eq_true rfl] at h
  cases h
/-- the two parts are of a least form -/
structure LeastS (xs gs : List Bool) : Prop where
  ex : ∃ (row : List Bool) (a n b p : Nat), Form (atW (bz row) a n) b p ∧ xs = boolsW row a n b ∧ gs = ringW row a n b p ∧ b + p ≤ 1000
theorem LeastS.len {xs gs : List Bool} (h : LeastS xs gs) : 1 ≤ gs.length ∧ xs.length + gs.length ≤ 1000 := by
  obtain ⟨row, a, n, b, p, f, rfl, rfl, le⟩ := h.ex
  have := f.p1
  rw [ring_len, boolsW_len]
  omega
/-- of a least form the same is made -/
theorem LeastS.same {xs gs : List Bool} (h : LeastS xs gs) {b' p' : Nat} (f' : Form (atW (bz (xs ++ gs)) xs.length gs.length) b' p') : boolsW (xs ++ gs) xs.length gs.length b' = xs ∧ ringW (xs ++ gs) xs.length gs.length b' p' = gs := by
  obtain ⟨row, a, n, b, p, f, rfl, rfl, le⟩ := h.ex
  have e := again_W f
  rw [e] at f'
  obtain ⟨rfl, rfl⟩ := f.uniq f'
  have at_ := atB_of_W e
  exact ⟨boolsW_congr at_, ringW_congr at_⟩
def spReadS (CS : Addr) : Sp := fun vs H Q _ => ∃ (c : V) (xs gs : List Bool), vs = [c, .str (textS xs gs)] ∧ LeastS xs gs ∧ ∀ H' y, Same H H' → SizAt CS H' y xs gs → Q (.ref y) H'
theorem ok_rd {CS f fRi fSi fSt : Addr} {fd fdRi fdSi fdSt : FuncData} (F : Fun K "read" "Sizes.read" s_rd f fd) (U : Blt mg) (gSiz : mg "Sizes" = some (.ref CS)) (rdS : ClX.CRead K CS (.type "type")) (mostS : ∃ u, ClX.CVal K CS (.type "type") "MOST" (.int 1000) u)
    (Ri : Fun K "rows_in" "rows_in" s_ri fRi fdRi) (gRi : mg "rows_in" = some (.ref fRi)) (b_ri : L2.Binds K fdRi ["text"] [])
    (MkS : Mk K CS fSi) (b_si : L2.Binds K fdSi ["self", "ahead", "again"] []) (G_si : FnOk P w K mg base CX0 4 fSi fdSi ["self", "ahead", "again"] (spSizes CS))
    (stS : PySem.W.findIn K (.ref CS) "__str__" = some (some (.ref fSt))) (isS : PySem.W.isFn K (.ref fSt) = true) (G_strS : FnOk P w K mg base CX0 2 fSt fdSt ["self"] (spStrS CS)) (b_strS : L2.Binds K fdSt ["self"] []) : FnOk P w K mg base CX0 7 f fd ["cls", "text"] (spReadS CS) := by
  have G_ri : FnOk P w K mg base CX0 1 fRi fdRi ["text"] spRowsIn := ok_ri Ri U gSiz rdS mostS
  refine F.ok sc_rd (fun vs H Q E h => ?_) (fun cdv A outer s H vs Q E hr h => ?_)
  · obtain ⟨c, xs, gs, rfl, _⟩ := h
    rfl
  · obtain ⟨c, xs, gs, rfl, ls, fin⟩ := h
    refine ⟨_, (pss_cons (ps_set (i := 2) sc_rd.nd rfl (Or.inl rfl) (pe_call G_ri (hr.mono (by decide)) rfl gRi Ri.kp b_ri .nil pass0 (by exact (pa_cons (pv 1) pa_nil))))
  (pss_cons (ps_if (pt_cmpR op_isN (pv 2) pe_non (nomark _)) (pss_one (ps_never)) pss_nil)
  (pss_cons (ps_set (i := 3) sc_rd.nd rfl (Or.inl rfl) (pe_box (pe_make MkS G_si (hr.mono (by decide)) rfl gSiz b_si .nil pass0 (by exact (pa_cons (pe_lc (own := [("sign", 4)]) rfl sc_rd.nd (pi_str (pe_ix ix_tup (pv 2) pe_int (fun _ _ => rfl))) (blkOk_by (by kernel_rfl)) (fun s_ H_ C_ cl_ fp_ => (pg_name (i := 4) sc_rd.nd rfl (Or.inl rfl))) (fun s_ H_ C_ cl_ fp_ => pts_nil) (fun s_ H_ C_ cl_ fp_ => (pe_cmpR op_eq (pv 4) pe_str (nomark _)))) (pa_cons (pe_lc (own := [("sign", 4)]) rfl sc_rd.nd (pi_str (pe_ix ix_tup (pv 2) pe_int (fun _ _ => rfl))) (blkOk_by (by kernel_rfl)) (fun s_ H_ C_ cl_ fp_ => (pg_name (i := 4) sc_rd.nd rfl (Or.inl rfl))) (fun s_ H_ C_ cl_ fp_ => pts_nil) (fun s_ H_ C_ cl_ fp_ => (pe_cmpR op_eq (pv 4) pe_str (nomark _)))) pa_nil))))))
  (pss_cons (ps_if (pt_cmpR op_ne (pe_box (pe_callTy (call_strO stS isS G_strS b_strS (hr.mono (by decide))) rfl U.z_str (by decide +kernel) (pa_cons (pv 3) pa_nil))) (pv 1) (nomark _)) (pss_one (ps_never)) pss_nil)
  (pss_one (ps_ret (pv 3))))))), ?_⟩
    have sz : sizeLine = 16777216 := rfl
    obtain ⟨g1, few⟩ := ls.len
    refine ⟨_, rfl, xs, gs, rfl, g1, few, fun H1 u s1 hu => ?_⟩
    refine ⟨_, rfl, rfl, _, rfl, ?_⟩
    rw [decide_eq_false (show ¬ V.ref u = V.non from fun z => by cases z)]
    refine iteF ?_
    refine sizN_box (as := xs) (gs := gs) (fun R k => ?_) g1 few fun H' y b' p' s2 f' le' at' => ?_
    · refine ⟨_, rfl, u, _, _, _, rfl, rfl, SqT.of hu, at_nat' (i := 0) rfl, _, rfl, fun D hD => ?_⟩
      have size : ∀ bs : List Bool, (figs bs).cps.size = bs.length := fun bs => figs_len bs
      have step : ∀ {bs : List Bool} {D : Addr} {i : Nat} {c : Nat} {H0 H' : Hp}, H0 D = none → (figs bs).cps[i]? = some c → bs.length ≤ 1000 → Same H0 H' ∧ H' D = some (.lst ((bs.take i).map V.bl)) → ∃ xs, H' D = some (.lst xs) ∧ xs.length < sizeLine ∧ (Same H0 (upd H' D (.lst (xs ++ [V.bl (decide (V.str ⟨#[c]⟩ = V.str "1"))]))) ∧ upd H' D (.lst (xs ++ [V.bl (decide (V.str ⟨#[c]⟩ = V.str "1"))])) D = some (.lst ((bs.take (i + 1)).map V.bl))) := fun {bs D i c H0 H'} hD hc l q => by
        obtain ⟨b, hb, eb⟩ := figs_at hc
        refine ⟨_, q.2, by rw [List.length_map, List.length_take]; omega, fun b' o e => ?_, ?_⟩
        · have nb : b' ≠ D := fun z => by rw [z, hD] at e; cases e
          rw [upd_ne nb]
          exact q.1 b' o e
        · rw [upd_same, sgn_one eb, List.take_succ, hb, List.map_append]
          rfl
      refine lc_it (walk_str (z := figs xs)) (fun i H' => Same H1 H' ∧ H' D = some (.lst ((xs.take i).map V.bl))) ⟨Same.new hD, upd_same⟩ (fun i H' _ q => True.intro) (fun i y H' H'' lt q yy => ?_) (fun H' q => ?_)
      · obtain ⟨rfl, c, hc, rfl⟩ := yy
        refine ⟨rfl, ?_⟩
        refine iteT (B := Same H1 H'' ∧ H'' D = some (.lst ((xs.take (i + 1)).map V.bl))) ?_
        exact ⟨_, rfl, rfl, step hD hc (by omega) q⟩
      · rw [size, List.take_length] at q
        have hu2 := q.1 _ _ hu
        refine ⟨_, rfl, u, _, _, _, rfl, rfl, SqT.of hu2, at_nat' (i := 1) rfl, _, rfl, fun D2 hD2 => ?_⟩
        refine lc_it (walk_str (z := figs gs)) (fun i H3 => Same H' H3 ∧ H3 D2 = some (.lst ((gs.take i).map V.bl))) ⟨Same.new hD2, upd_same⟩ (fun i H' _ q => True.intro) (fun i y H3 H4 lt q2 yy => ?_) (fun H3 q2 => ?_)
        · obtain ⟨rfl, c, hc, rfl⟩ := yy
          refine ⟨rfl, ?_⟩
          refine iteT (B := Same H' H4 ∧ H4 D2 = some (.lst ((gs.take (i + 1)).map V.bl))) ?_
          exact ⟨_, rfl, rfl, step hD2 hc (by omega) q2⟩
        · rw [size, List.take_length] at q2
          exact k H3 D D2 false false (q.1.trans q2.1) (q2.1 _ _ q.2) q2.2
    · obtain ⟨e1, e2⟩ := ls.same f'
      rw [e1, e2] at at'
      refine strS_box rfl at' (by omega) fun H3 s3 => ?_
      refine ⟨_, rfl, rfl, _, rfl, ?_⟩
      refine ite2 (fun k => (ne_self k).elim) (fun _ => ?_)
      exact ⟨_, rfl, fin _ y ((s1.trans s2).trans s3) (at'.same s3)⟩
end
end Fz
set_option Elab.async false
set_option linter.all false
set_option maxRecDepth 100000
set_option maxHeartbeats 2000000
namespace Fz
open PySem PySem.Spec PyProof.Rows L2
/-- one step of a reading -/
local macro_rules | `(tactic| walk_at "st") => `(tactic| first
  | refine ⟨_, rfl, ?_⟩
  | refine Or.inl ⟨_, rfl, ?_⟩
  | refine Or.inr ⟨_, rfl, ?_⟩
  | refine ⟨_, _, _, _, rfl, rfl, SqL.of (by first | assumption | exact upd_same), rfl, ?_⟩
  | refine ⟨_, _, _, _, rfl, rfl, (by first | assumption | exact upd_same), rfl, ?_⟩
  | refine ⟨_, _, rfl, .inl ⟨_, SqL.of (by first | assumption | exact upd_same), rfl⟩, ?_⟩
  | refine ⟨_, _, rfl, rfl, (show (0 : Int) < _ by first | decide | omega), ?_⟩
  | refine ⟨_, _, rfl, rfl, (show (0 : Int) < _ ∧ _ < _ by first | exact ⟨by decide, by decide⟩ | omega), ?_⟩
  | refine ⟨_, _, rfl, rfl, (show (_ < _ ∧ _ < _) ∨ (_ < _ ∧ _ < _) by first | exact .inl ⟨by decide, by decide⟩ | omega), ?_⟩
  | refine ⟨_, _, rfl, rfl, (show (0 : Int) ≤ _ ∧ _ ≤ _ ∧ _ < _ by first | exact ⟨by decide, by decide, by decide⟩ | exact ⟨by decide, by decide, by omega⟩), ?_⟩
  | refine ⟨_, _, rfl, rfl, ?_⟩)

section
variable {P : Program} {w : World} {K : PySem.W.Frag} {mg : Str → Option Value} {base : Heap}

theorem lenB {H : Hp} {l : Addr} {bs : List Bool} (h : H l = some (.lst (bs.map V.bl))) : LenV K (.ref l) H bs.length := by
  have q := SeqAt2.len (K := K) (.inl h)
  rw [List.length_map] at q
  exact q
abbrev s_bools : Stmt := topS 30
theorem sc_bools : FnScope ["_law_pen_here", "_law_most", "_law_k"] ["_law_pen_here", "_law_most"] (defScope s_bools) := ⟨rfl, rfl, rfl, by decide +kernel, rfl, by decide +kernel, by decide +kernel⟩
def spBools : Sp := fun vs H Q _ => ∃ (n mo : Nat) (p q : Addr), vs = [.ref p, .int mo] ∧ PenAt n H p q ∧ n < 95000 ∧ mo ≤ 5 ∧ ∀ (H' : Hp) (l : Addr) (bs : List Bool), PenAt (n + 7) H' p q → Mv p H H' → H' l = some (.lst (bs.map V.bl)) → H l = none → l ≠ p → bs.length ≤ mo → Q (.ref l) H'
theorem ok_bools {f fD : Addr} {fd fdD : FuncData} (F : Fun K "_law_bools" "_law_bools" s_bools f fd) (U : Blt mg) (D : Fun K "_law_draw" "_law_draw" s_draw fD fdD) (gD : mg "_law_draw" = some (.ref fD)) (b_draw : L2.Binds K fdD ["_law_pen_here", "_law_many"] []) : FnOk P w K mg base CX0 2 f fd ["_law_pen_here", "_law_most"] spBools := by
  have G_draw : FnOk P w K mg base CX0 1 fD fdD ["_law_pen_here", "_law_many"] spDraw := ok_draw D U
  refine F.ok sc_bools (fun vs H Q E h => ?_) (fun cdv A outer s H vs Q E hr h => ?_)
  · obtain ⟨n, mo, p, q, rfl, _⟩ := h
    rfl
  · obtain ⟨n, mo, p, q, rfl, hp, hn, mo5, fin⟩ := h
    refine ⟨_, (pss_one (ps_ret (pe_lc (own := [("_law_k", 2)]) rfl sc_bools.nd (pi_range1 rfl U.z_range (by exact (pa_cons (pe_call G_draw (hr.mono (by decide)) rfl gD D.kp b_draw .nil pass0 (by exact (pa_cons (pv 0) (pa_cons (pe_op op_add (pv 1) pe_int) pa_nil)))) pa_nil))) (blkOk_by (by kernel_rfl)) (fun s_ H_ C_ cl_ fp_ => (pg_name (i := 2) sc_bools.nd rfl (Or.inl rfl))) (fun s_ H_ C_ cl_ fp_ => pts_nil) (fun s_ H_ C_ cl_ fp_ => (pe_cmpR op_eq (pe_call G_draw (hr.mono (by decide)) rfl gD D.kp b_draw .nil pass0 (by exact (pa_cons (pv 0) (pa_cons pe_int pa_nil)))) pe_int (nomark _)))))), ?_⟩
    have sz : (10000 : Nat) ≤ sizeLine := by show 10000 ≤ 16777216; decide
    refine ⟨_, rfl, _, rfl, _, _, rfl, rfl, n, p, q, (mo : Int) + 1, rfl, hp, by omega, by omega, small_log (by omega) (by omega), fun H1 d p1 m1 d0 d1 => ?_⟩
    refine ⟨_, rfl, by omega, by omega, fun D hD => ?_⟩
    have Dp := p1.fresh hD
    have lt : d.toNat ≤ 5 := by omega
    refine lc_range (lo := 0) (n := d.toNat) (fun i H' => ∃ xs : List Bool, PenAt (n + 1 + i) H' p q ∧ Mv p H1 H' ∧ H' D = some (.lst (xs.map V.bl)) ∧ xs.length = i) ⟨[], p1.new hD, Mv.new hD, upd_same, rfl⟩ (fun i H' hi q5 => ?_) (fun H' q5 => ?_)
    · obtain ⟨xs, pi, mi, hd, xl⟩ := q5
      refine ⟨rfl, ?_⟩
      refine iteT (B := ∃ xs : List Bool, PenAt (n + 1 + (i + 1)) H' p q ∧ Mv p H1 H' ∧ H' D = some (.lst (xs.map V.bl)) ∧ xs.length = i + 1) ?_
      refine ⟨_, rfl, n + 1 + i, p, q, 2, rfl, pi, by omega, by decide, small_log (by decide) (by decide), fun H5 e p6 m6 e0 e1 => ?_⟩
      refine ⟨rfl, _, m6 _ _ Dp.1 hd, by rw [List.length_map, xl]; omega, xs ++ [decide (V.int e = V.int 0)], p6.put Dp.1 Dp.2, fun b o nb e => ?_, by rw [upd_same, List.map_append]; rfl, by rw [List.length_append, xl]; rfl⟩
      have ne : b ≠ D := fun z => by rw [z, hD] at e; cases e
      rw [upd_ne ne]
      exact m6 _ _ nb (mi _ _ nb e)
    · obtain ⟨xs, pi, mi, hd, xl⟩ := q5
      exact fin _ D xs (pi.more (by omega)) (m1.trans mi) hd (un_mv m1 Dp.1 hD) Dp.1 (by omega)
abbrev s_plan : Stmt := topS 31
theorem sc_plan : FnScope ["_law_pen_here", "_law_most", "_law_fore", "_law_wheel"] ["_law_pen_here", "_law_most"] (defScope s_plan) := ⟨rfl, rfl, rfl, by decide +kernel, rfl, by decide +kernel, by decide +kernel⟩
theorem flat_rep (bs : List Bool) : ∀ k : Nat, (List.replicate k (bs.map V.bl)).flatten = ((List.replicate k bs).flatten).map V.bl
  | 0 => rfl
  | k + 1 => by rw [List.replicate_succ, List.flatten_cons, flat_rep bs k, List.replicate_succ, List.flatten_cons, List.map_append]
theorem flat_lenB (bs : List Bool) : ∀ k : Nat, ((List.replicate k bs).flatten).length = k * bs.length
  | 0 => by simp
  | k + 1 => by rw [List.replicate_succ, List.flatten_cons, List.length_append, flat_lenB bs k, Nat.succ_mul, Nat.add_comm]
def spPlan : Sp := fun vs H Q _ => ∃ (n mo : Nat) (p q : Addr), vs = [.ref p, .int mo] ∧ PenAt n H p q ∧ n < 90000 ∧ 1 ≤ mo ∧ mo ≤ 5 ∧ ∀ (H' : Hp) (pl f g : Addr) (as gs : List Bool), PenAt (n + 20) H' p q → Mv p H H' → H' pl = some (.tup [.ref f, .ref g]) → H' f = some (.lst (as.map V.bl)) → H' g = some (.lst (gs.map V.bl)) → pl ≠ p → f ≠ p → g ≠ p → H pl = none → H f = none → H g = none → 1 ≤ gs.length → as.length ≤ 10 → gs.length ≤ 15 → Q (.ref pl) H'
theorem ok_plan {f fD fP fBo : Addr} {fd fdD fdP fdBo : FuncData} (F : Fun K "_law_plan" "_law_plan" s_plan f fd) (U : Blt mg) (D : Fun K "_law_draw" "_law_draw" s_draw fD fdD) (gD : mg "_law_draw" = some (.ref fD)) (b_draw : L2.Binds K fdD ["_law_pen_here", "_law_many"] [])
    (Pk : Fun K "_law_pick" "_law_pick" s_pick fP fdP) (gP : mg "_law_pick" = some (.ref fP)) (b_pick : L2.Binds K fdP ["_law_pen_here", "_law_some"] [])
    (Bo : Fun K "_law_bools" "_law_bools" s_bools fBo fdBo) (gBo : mg "_law_bools" = some (.ref fBo)) (b_bools : L2.Binds K fdBo ["_law_pen_here", "_law_most"] []) : FnOk P w K mg base CX0 3 f fd ["_law_pen_here", "_law_most"] spPlan := by
  have G_draw : FnOk P w K mg base CX0 1 fD fdD ["_law_pen_here", "_law_many"] spDraw := ok_draw D U
  have G_pick : FnOk P w K mg base CX0 2 fP fdP ["_law_pen_here", "_law_some"] (spPick K) := ok_pick Pk U D gD b_draw
  have G_bools : FnOk P w K mg base CX0 2 fBo fdBo ["_law_pen_here", "_law_most"] spBools := ok_bools Bo U D gD b_draw
  refine F.ok sc_plan (fun vs H Q E h => ?_) (fun cdv A outer s H vs Q E hr h => ?_)
  · obtain ⟨n, mo, p, q, rfl, _⟩ := h
    rfl
  · obtain ⟨n, mo, p, q, rfl, hp, hn, mo1, mo5, fin⟩ := h
    refine ⟨_, (C8.pss_cut (ps_par (i := 2) (j := 3) (by rfl) sc_plan.nd rfl rfl (by decide) rfl rfl (pa_cons (pe_call G_bools (hr.mono (by decide)) rfl gBo Bo.kp b_bools .nil pass0 (by exact (pa_cons (pv 0) (pa_cons (pv 1) pa_nil)))) (pa_cons (pe_op op_cat (pe_call G_bools (hr.mono (by decide)) rfl gBo Bo.kp b_bools .nil pass0 (by exact (pa_cons (pv 0) (pa_cons (pe_op op_sub (pv 1) pe_int) pa_nil)))) (pe_lst (pa_cons (pe_cmpR op_eq (pe_call G_draw (hr.mono (by decide)) rfl gD D.kp b_draw .nil pass0 (by exact (pa_cons (pv 0) (pa_cons pe_int pa_nil)))) pe_int (nomark _)) pa_nil))) pa_nil)) (by rfl))
  (C8.pss_cut (ps_if (pt_cmpR op_eq (pe_call G_draw (hr.mono (by decide)) rfl gD D.kp b_draw .nil pass0 (by exact (pa_cons (pv 0) (pa_cons pe_int pa_nil)))) pe_int (nomark _)) (pss_one (ps_set (i := 3) sc_plan.nd rfl (Or.inl rfl) (pe_op op_rep (pe_lst (pa_cons (pe_ix ix_list (pv 3) pe_int (fun _ _ => rfl)) pa_nil)) (pe_callB call_len rfl U.z_len (by decide +kernel) (pa_cons (pv 3) pa_nil))))) pss_nil)
  (pss_one (ps_ret (pe_tup (pa_cons (pe_op op_cat (pv 2) (pe_op op_rep (pv 3) (pe_call G_pick (hr.mono (by decide)) rfl gP Pk.kp b_pick .nil pass0 (by exact (pa_cons (pv 0) (pa_cons (pe_lst (pa_cons pe_int (pa_cons pe_int (pa_cons pe_int pa_nil)))) pa_nil)))))) (pa_cons (pe_op op_rep (pv 3) (pe_call G_pick (hr.mono (by decide)) rfl gP Pk.kp b_pick .nil pass0 (by exact (pa_cons (pv 0) (pa_cons (pe_lst (pa_cons pe_int (pa_cons pe_int (pa_cons pe_int (pa_cons pe_int pa_nil))))) pa_nil))))) pa_nil))))))), ?_⟩
    have sz : (10000 : Nat) ≤ sizeLine := by show 10000 ≤ 16777216; decide
    refine ⟨fun σ' H' => ∃ (f g : Addr) (as gs : List Bool), σ' = [some (.ref p), some (.int mo), some (.ref f), some (.ref g)] ∧ PenAt (n + 15) H' p q ∧ Mv p H H' ∧ H' f = some (.lst (as.map V.bl)) ∧ H' g = some (.lst (gs.map V.bl)) ∧ f ≠ p ∧ g ≠ p ∧ H f = none ∧ H g = none ∧ 1 ≤ gs.length ∧ as.length ≤ 5 ∧ gs.length ≤ 5, ?_, ?_⟩
    · refine ⟨_, rfl, _, rfl, n, mo, p, q, rfl, hp, by omega, mo5, fun H1 f as p1 m1 hf f0 fp lf => ?_⟩
      have em : ((mo : Int) - 1) = ((mo - 1 : Nat) : Int) := by omega
      refine ⟨_, rfl, _, rfl, _, _, rfl, rfl, n + 7, mo - 1, p, q, by show [V.ref p, V.int ((mo : Int) - 1)] = _; rw [em], p1, by omega, by omega, fun H2 g0 gs p2 m2 hg g00 gp lg => ?_⟩
      refine ⟨_, rfl, n + 14, p, q, 2, rfl, p2, by omega, by decide, small_log (by decide) (by decide), fun H3 d p3 m3 d0 d1 => ?_⟩
      refine ⟨rfl, by show 1 ≤ sizeLine; omega, fun l1 h1 => ?_⟩
      have u1 := Same.new (o := .lst [V.bl (decide (V.int d = V.int 0))]) h1
      refine ⟨g0, l1, _, _, rfl, rfl, u1 _ _ (m3 _ _ gp hg), upd_same, by rw [List.length_map]; show _ + 1 ≤ sizeLine; omega, fun g hg2 => ?_⟩
      have e1 : gs.map V.bl ++ [V.bl (decide (V.int d = V.int 0))] = (gs ++ [decide (V.int d = V.int 0)]).map V.bl := by rw [List.map_append]; rfl
      rw [e1]
      have u2 := Same.new (o := .lst ((gs ++ [decide (V.int d = V.int 0)]).map V.bl)) hg2
      have p4 := p3.new (o := .lst [V.bl (decide (V.int d = V.int 0))]) h1
      have mvA : Mv p H (upd H3 l1 (.lst [V.bl (decide (V.int d = V.int 0))])) := ((m1.trans m2).trans m3).trans (Same.mv u1 p)
      refine ⟨_, _, rfl, ?_⟩
      exact ⟨f, g, as, gs ++ [decide (V.int d = V.int 0)], rfl, p4.new hg2, mvA.trans (Same.mv u2 p), u2 _ _ (u1 _ _ (m3 _ _ fp (m2 _ _ fp hf))), upd_same, fp, (p4.fresh hg2).1, f0, un_mv mvA (p4.fresh hg2).1 hg2, by rw [List.length_append]; show 1 ≤ _ + 1; omega, by omega, by rw [List.length_append]; show _ + 1 ≤ 5; omega⟩
    rintro σ' H1 ⟨f, g, as, gs, rfl, p1, m1, hf, hg, fp, gp, f0, g0, g1, la, lg⟩
    refine ⟨fun σ' H' => ∃ (g : Addr) (gs : List Bool), σ' = [some (.ref p), some (.int mo), some (.ref f), some (.ref g)] ∧ PenAt (n + 16) H' p q ∧ Mv p H H' ∧ H' f = some (.lst (as.map V.bl)) ∧ H' g = some (.lst (gs.map V.bl)) ∧ g ≠ p ∧ H g = none ∧ 1 ≤ gs.length ∧ gs.length ≤ 5, ?_, ?_⟩
    · refine ⟨_, rfl, n + 15, p, q, 6, rfl, p1, by omega, by decide, small_log (by decide) (by decide), fun H2 d p2 m2 d0 d1 => ?_⟩
      refine ⟨rfl, _, rfl, ?_⟩
      have hf2 := m2 _ _ fp hf
      have hg2 := m2 _ _ gp hg
      have mv2 := m1.trans m2
      refine ite2 (fun c => ?_) (fun c => ?_)
      · have e0 : gs[0]? = some gs[0] := List.getElem?_eq_getElem (by omega)
        refine ⟨_, rfl, g, _, _, .bl gs[0], rfl, rfl, SqL.of hg2, at_nat' (i := 0) (by rw [List.getElem?_map, e0]; rfl), by show 1 ≤ sizeLine; omega, fun l1 h1 => ?_⟩
        have u1 := Same.new (o := .lst [V.bl gs[0]]) h1
        refine ⟨_, rfl, _, _, rfl, lenB (u1 _ _ hg2), ?_⟩
        refine ⟨l1, ((gs.length : Nat) : Int), _, rfl, rfl, upd_same, Int.le_trans (by decide) (Int.natCast_nonneg _), Int.lt_of_le_of_lt (Int.ofNat_le.mpr (show gs.length ≤ 100 by omega)) (by decide), by rw [Int.toNat_natCast]; show 1 * gs.length ≤ sizeLine; omega, fun g' hg' => ?_⟩
        have e1 : (List.replicate ((gs.length : Nat) : Int).toNat [V.bl gs[0]]).flatten = ((List.replicate gs.length [gs[0]]).flatten).map V.bl := by
          rw [Int.toNat_natCast, ← flat_rep]
          rfl
        rw [e1]
        have p3 := p2.new (o := .lst [V.bl gs[0]]) h1
        have mvA := mv2.trans (Same.mv u1 p)
        have u2 := Same.new (o := .lst (((List.replicate gs.length [gs[0]]).flatten).map V.bl)) hg'
        refine ⟨g', (List.replicate gs.length [gs[0]]).flatten, rfl, p3.new hg', mvA.trans (Same.mv u2 p), u2 _ _ (u1 _ _ hf2), upd_same, (p3.fresh hg').1, un_mv mvA (p3.fresh hg').1 hg', ?_, ?_⟩
        · rw [flat_lenB]; show 1 ≤ _ * 1; omega
        · rw [flat_lenB]; show _ * 1 ≤ 5; omega
      · exact ⟨g, gs, rfl, p2, mv2, hf2, hg2, gp, g0, g1, lg⟩
    rintro σ' H2 ⟨g, gs, rfl, p2, m2, hf2, hg2, gp, g0, g1, lg⟩
    have repV : ∀ {Hx : Hp} {k : Nat} {R : VK}, Hx g = some (.lst (gs.map V.bl)) → k ≤ 3 → (∀ l, Hx l = none → R (.ref l) (upd Hx l (.lst (((List.replicate k gs).flatten).map V.bl)))) → rRep (.ref g) (.int (k : Nat)) Hx R := fun {Hx k R} h k3 r => by
      refine ⟨g, ((k : Nat) : Int), _, rfl, rfl, h, Int.le_trans (by decide) (Int.natCast_nonneg _), Int.lt_of_le_of_lt (Int.ofNat_le.mpr (show k ≤ 100 by omega)) (by decide), ?_, fun l hl => ?_⟩
      · rw [Int.toNat_natCast, List.length_map]
        have : gs.length * k ≤ 5 * 3 := Nat.mul_le_mul lg k3
        omega
      · rw [Int.toNat_natCast, flat_rep]
        exact r l hl
    refine ⟨_, rfl, _, rfl, _, rfl, by show 3 ≤ sizeLine; omega, fun l1 h1 => ?_⟩
    have p3 := p2.new (o := .lst [V.int 0, .int 0, .int 1]) h1
    have w1 := Same.new (o := .lst [V.int 0, .int 0, .int 1]) h1
    refine ⟨n + 16, p, q, l1, _, rfl, p3, by omega, (p2.fresh h1).1, upd_same, by show 0 < 3; decide, by show 3 ≤ 1000; decide, fun H3 y p4 m4 hy => ?_⟩
    obtain ⟨k1, rfl, k1b⟩ : ∃ k : Nat, y = V.int k ∧ k ≤ 1 := by
      simp only [List.mem_cons, List.not_mem_nil, or_false] at hy
      rcases hy with rfl | rfl | rfl
      · exact ⟨0, rfl, by omega⟩
      · exact ⟨0, rfl, by omega⟩
      · exact ⟨1, rfl, by omega⟩
    have mv3 := (m2.trans (Same.mv w1 p)).trans m4
    have hf3 := m4 _ _ fp (w1 _ _ hf2)
    have hg3 := m4 _ _ gp (w1 _ _ hg2)
    refine repV hg3 (by omega) fun l2 h2 => ?_
    have w2 := Same.new (o := .lst (((List.replicate k1 gs).flatten).map V.bl)) h2
    have fl1 := flat_lenB gs k1
    have k1l : k1 * gs.length ≤ 1 * 5 := Nat.mul_le_mul k1b lg
    refine ⟨f, l2, _, _, rfl, rfl, w2 _ _ hf3, upd_same, by rw [List.length_map, List.length_map, fl1]; omega, fun fl hfl => ?_⟩
    rw [← List.map_append]
    have w3 := Same.new (o := .lst ((as ++ (List.replicate k1 gs).flatten).map V.bl)) hfl
    have p5 := p4.new (o := .lst (((List.replicate k1 gs).flatten).map V.bl)) h2
    have p6 := p5.new (o := .lst ((as ++ (List.replicate k1 gs).flatten).map V.bl)) hfl
    have mvF := mv3.trans (Same.mv w2 p)
    refine ⟨_, rfl, _, rfl, by show 4 ≤ sizeLine; omega, fun l4 h4 => ?_⟩
    have w4 := Same.new (o := .lst [V.int 1, .int 1, .int 2, .int 3]) h4
    have p7 := p6.new (o := .lst [V.int 1, .int 1, .int 2, .int 3]) h4
    refine ⟨n + 17, p, q, l4, _, rfl, p7, by omega, (p6.fresh h4).1, upd_same, by show 0 < 4; decide, by show 4 ≤ 1000; decide, fun H5 y p8 m8 hy => ?_⟩
    obtain ⟨k2, rfl, k2a, k2b⟩ : ∃ k : Nat, y = V.int k ∧ 1 ≤ k ∧ k ≤ 3 := by
      simp only [List.mem_cons, List.not_mem_nil, or_false] at hy
      rcases hy with rfl | rfl | rfl | rfl
      · exact ⟨1, rfl, by omega, by omega⟩
      · exact ⟨1, rfl, by omega, by omega⟩
      · exact ⟨2, rfl, by omega, by omega⟩
      · exact ⟨3, rfl, by omega, by omega⟩
    have hg5 := m8 _ _ gp (w4 _ _ (w3 _ _ (w2 _ _ hg3)))
    have flp := (p5.fresh hfl).1
    have hfl5 := m8 _ _ flp (w4 _ _ (upd_same (H := upd H3 l2 (.lst (((List.replicate k1 gs).flatten).map V.bl))) (a := fl) (o := .lst ((as ++ (List.replicate k1 gs).flatten).map V.bl))))
    refine repV hg5 (by omega) fun gl hgl => ?_
    have w5 := Same.new (o := .lst (((List.replicate k2 gs).flatten).map V.bl)) hgl
    have p9 := p8.new (o := .lst (((List.replicate k2 gs).flatten).map V.bl)) hgl
    have mv5 := ((mvF.trans (Same.mv w3 p)).trans (Same.mv w4 p)).trans m8
    refine ⟨by show 2 ≤ sizeLine; omega, fun pl hpl => ?_⟩
    have w6 := Same.new (o := .tup [V.ref fl, .ref gl]) hpl
    have fl2 := flat_lenB gs k2
    have k2l : k2 * gs.length ≤ 3 * 5 := Nat.mul_le_mul k2b lg
    have k2m : 1 * 1 ≤ k2 * gs.length := Nat.mul_le_mul k2a g1
    have mv6 := mv5.trans (Same.mv w5 p)
    exact fin _ pl fl gl (as ++ (List.replicate k1 gs).flatten) ((List.replicate k2 gs).flatten) ((p9.new hpl).more (by omega)) (mv6.trans (Same.mv w6 p)) upd_same (w6 _ _ (w5 _ _ hfl5)) (w6 _ _ upd_same) (p9.fresh hpl).1 flp (p8.fresh hgl).1 (un_mv mv6 (p9.fresh hpl).1 hpl) (un_mv mvF flp hfl) (un_mv mv5 (p8.fresh hgl).1 hgl) (by rw [fl2]; omega) (by rw [List.length_append, fl1]; omega) (by rw [fl2]; omega)
end
end Fz
set_option Elab.async false
set_option linter.all false
set_option maxRecDepth 100000
set_option maxHeartbeats 2000000
namespace Fz
open PySem PySem.Spec PyProof.Rows L2
/-- one step of a reading -/
local macro_rules | `(tactic| walk_at "st") => `(tactic| first
  | refine ⟨_, rfl, ?_⟩
  | refine Or.inl ⟨_, rfl, ?_⟩
  | refine Or.inr ⟨_, rfl, ?_⟩
  | refine ⟨_, _, _, _, rfl, rfl, SqL.of (by first | assumption | exact upd_same), rfl, ?_⟩
  | refine ⟨_, _, _, _, rfl, rfl, (by first | assumption | exact upd_same), rfl, ?_⟩
  | refine ⟨_, _, rfl, .inl ⟨_, SqL.of (by first | assumption | exact upd_same), rfl⟩, ?_⟩
  | refine ⟨_, _, rfl, rfl, (show (0 : Int) < _ by first | decide | omega), ?_⟩
  | refine ⟨_, _, rfl, rfl, (show (0 : Int) < _ ∧ _ < _ by first | exact ⟨by decide, by decide⟩ | omega), ?_⟩
  | refine ⟨_, _, rfl, rfl, (show (_ < _ ∧ _ < _) ∨ (_ < _ ∧ _ < _) by first | exact .inl ⟨by decide, by decide⟩ | omega), ?_⟩
  | refine ⟨_, _, rfl, rfl, (show (0 : Int) ≤ _ ∧ _ ≤ _ ∧ _ < _ by first | exact ⟨by decide, by decide, by decide⟩ | exact ⟨by decide, by decide, by omega⟩), ?_⟩
  | refine ⟨_, _, rfl, rfl, ?_⟩)

section
variable {P : Program} {w : World} {K : PySem.W.Frag} {mg : Str → Option Value} {base : Heap}

abbrev s_ft : Stmt := topS 14
theorem sc_ft : FnScope ["told", "begin", "count", "again", "rounds"] ["told", "begin", "count"] (defScope s_ft) := ⟨rfl, rfl, rfl, by decide +kernel, rfl, by decide +kernel, by decide +kernel⟩
theorem un_same {H H' : Hp} (s : Same H H') {l : Addr} (h : H' l = none) : H l = none := by
  cases e : H l with
  | none => rfl
  | some o => rw [s _ _ e] at h; cases h
def spFt : Sp := fun vs H Q _ => ∃ (t : Addr) (xs gs : List Bool) (n : Nat), vs = [.ref t, .int xs.length, .int n] ∧ H t = some (.tup ((xs ++ gs).map V.bl)) ∧ 1 ≤ gs.length ∧ xs.length + gs.length ≤ 1000 ∧ n ≤ 1000 ∧ ∀ H' l, Same H H' → H' l = some (.lst ((boolsW (xs ++ gs) xs.length gs.length n).map V.bl)) → H l = none → Q (.ref l) H'
theorem ok_ft {f : Addr} {fd : FuncData} (F : Fun K "first_told" "first_told" s_ft f fd) (U : Blt mg) : FnOk P w K mg base CX0 1 f fd ["told", "begin", "count"] spFt := by
  refine F.ok sc_ft (fun vs H Q E h => ?_) (fun cdv A outer s H vs Q E hr h => ?_)
  · obtain ⟨t, xs, gs, n, rfl, _⟩ := h
    rfl
  · obtain ⟨t, xs, gs, n, rfl, ht, g1, few, nb, fin⟩ := h
    refine ⟨_, (pss_cons (ps_set (i := 3) sc_ft.nd rfl (Or.inl rfl) (pe_slice sl_seq (pv 0) (po_some (pv 1)) po_none))
  (pss_cons (ps_set (i := 4) sc_ft.nd rfl (Or.inl rfl) (pe_op op_add (pe_op op_fdiv (pe_callB (call_max2 rfl) rfl U.z_max (by decide +kernel) (pa_cons pe_int (pa_cons (pe_op op_sub (pv 2) (pe_callB call_len rfl U.z_len (by decide +kernel) (pa_cons (pv 0) pa_nil))) pa_nil))) (pe_callB call_len rfl U.z_len (by decide +kernel) (pa_cons (pv 3) pa_nil))) pe_int))
  (pss_one (ps_ret (pe_callTy call_list_of rfl U.z_list (by decide +kernel) (pa_cons (pe_slice sl_seq (pe_op op_catA (pv 0) (pe_op op_repA (pv 3) (pv 4))) po_none (po_some (pv 2))) pa_nil)))))), ?_⟩
    have sz : (2000000 : Nat) ≤ sizeLine := by show 2000000 ≤ 16777216; decide
    have hT : SqB true H t ((xs ++ gs).map V.bl) := ht
    refine ⟨_, rfl, _, rfl, _, rfl, hT.cut fun u H1 s1 h1 => ?_⟩
    have e1 : cutV ((xs ++ gs).map V.bl) (some (xs.length : Int)) none = gs.map V.bl := by rw [cutV_drop, ← List.map_drop, List.drop_left]
    rw [e1] at h1
    have lT : LenV K (.ref t) H1 (xs.length + gs.length) := by
      have q := SeqAt2.len (K := K) (hT.same s1).ii
      rw [List.length_map, List.length_append] at q
      exact q
    have lG : LenV K (.ref u) H1 gs.length := by
      have q := SeqAt2.len (K := K) (SqB.ii (t := true) h1)
      rw [List.length_map] at q
      exact q
    refine ⟨_, rfl, _, rfl, _, _, rfl, lT, _, _, rfl, rfl, _, _, rfl, _, rfl, _, _, rfl, lG, _, _, rfl, rfl, ⟨by omega, by omega⟩, _, _, rfl, rfl, ?_⟩
    have em : (if (n : Int) - ((xs.length + gs.length : Nat) : Int) > 0 then (n : Int) - ((xs.length + gs.length : Nat) : Int) else 0) / (gs.length : Int) + 1 = (((n - (xs.length + gs.length)) / gs.length + 1 : Nat) : Int) := by
      rw [show (if (n : Int) - ((xs.length + gs.length : Nat) : Int) > 0 then (n : Int) - ((xs.length + gs.length : Nat) : Int) else 0) = ((n - (xs.length + gs.length) : Nat) : Int) from by split <;> omega]
      rfl
    have enough : n ≤ xs.length + gs.length + ((n - (xs.length + gs.length)) / gs.length + 1) * gs.length := by
      have d := Nat.div_add_mod (n - (xs.length + gs.length)) gs.length
      have m := Nat.mod_lt (n - (xs.length + gs.length)) (show gs.length > 0 by omega)
      rw [Nat.succ_mul, Nat.mul_comm ((n - (xs.length + gs.length)) / gs.length)]
      omega
    obtain ⟨kk, hk⟩ : ∃ kk, kk = (n - (xs.length + gs.length)) / gs.length := ⟨_, rfl⟩
    have small : (n - (xs.length + gs.length)) / gs.length ≤ 999 := Nat.le_trans (Nat.div_le_self _ _) (by omega)
    have bound : ((n - (xs.length + gs.length)) / gs.length + 1) * gs.length ≤ 1000 * 1000 := Nat.mul_le_mul (by omega) (by omega)
    rw [← hk] at em enough small bound
    refine ⟨_, rfl, _, rfl, _, rfl, mul_b h1 (fun z => by rw [List.map_eq_nil_iff] at z; rw [z] at g1; cases g1) ?_ ?_ (by rw [List.length_map]; omega) fun t2 H2 s2 h2 => ?_⟩
    · show (1 : Int) ≤ (if (n : Int) - ((xs.length + gs.length : Nat) : Int) > 0 then (n : Int) - ((xs.length + gs.length : Nat) : Int) else 0) / (gs.length : Int) + 1
      rw [em]
      exact Int.ofNat_le.mpr (Nat.succ_le_succ (Nat.zero_le kk))
    · show (if (n : Int) - ((xs.length + gs.length : Nat) : Int) > 0 then (n : Int) - ((xs.length + gs.length : Nat) : Int) else 0) / (gs.length : Int) + 1 ≤ (1000 : Int)
      rw [em]
      exact Int.ofNat_le.mpr (show kk + 1 ≤ 1000 by omega)
    rw [em, Int.toNat_natCast, flat_rep] at h2
    refine cat_b ((hT.same s1).same s2) h2 (by rw [List.length_map, List.length_append, List.length_map, flat_lenB]; omega) fun t3 H3 s3 h3 => ?_
    rw [← List.map_append] at h3
    have h3' : SqB true H3 t3 (((xs ++ gs) ++ (List.replicate (kk + 1) gs).flatten).map V.bl) := h3
    refine ⟨_, rfl, _, rfl, h3'.cut fun t4 H4 s4 h4 => ?_⟩
    rw [cutV_take, ← List.map_take, long_row g1 enough] at h4
    refine ⟨t4, _, rfl, .inr (SqT.of h4), fun l hl => ?_⟩
    have s14 := ((s1.trans s2).trans s3).trans s4
    exact fin _ l (s14.trans (Same.new hl)) upd_same (un_same s14 hl)
end
end Fz
set_option Elab.async false
set_option linter.all false
set_option maxRecDepth 100000
set_option maxHeartbeats 2000000
namespace Fz
open PySem PySem.Spec PyProof.Rows L2
/-- one step of a reading -/
local macro_rules | `(tactic| walk_at "st") => `(tactic| first
  | refine ⟨_, rfl, ?_⟩
  | refine Or.inl ⟨_, rfl, ?_⟩
  | refine Or.inr ⟨_, rfl, ?_⟩
  | refine ⟨_, _, _, _, rfl, rfl, SqL.of (by first | assumption | exact upd_same), rfl, ?_⟩
  | refine ⟨_, _, _, _, rfl, rfl, (by first | assumption | exact upd_same), rfl, ?_⟩
  | refine ⟨_, _, rfl, .inl ⟨_, SqL.of (by first | assumption | exact upd_same), rfl⟩, ?_⟩
  | refine ⟨_, _, rfl, rfl, (show (0 : Int) < _ by first | decide | omega), ?_⟩
  | refine ⟨_, _, rfl, rfl, (show (0 : Int) < _ ∧ _ < _ by first | exact ⟨by decide, by decide⟩ | omega), ?_⟩
  | refine ⟨_, _, rfl, rfl, (show (_ < _ ∧ _ < _) ∨ (_ < _ ∧ _ < _) by first | exact .inl ⟨by decide, by decide⟩ | omega), ?_⟩
  | refine ⟨_, _, rfl, rfl, (show (0 : Int) ≤ _ ∧ _ ≤ _ ∧ _ < _ by first | exact ⟨by decide, by decide, by decide⟩ | exact ⟨by decide, by decide, by omega⟩), ?_⟩
  | refine ⟨_, _, rfl, rfl, ?_⟩)

section
variable {P : Program} {w : World} {K : PySem.W.Frag} {mg : Str → Option Value} {base : Heap}

abbrev s_fb : Stmt := topS 23
theorem sc_fb : FnScope ["sizes", "count"] ["sizes", "count"] (defScope s_fb) := ⟨rfl, rfl, rfl, by decide +kernel, rfl, by decide +kernel, by decide +kernel⟩
def spFb (CS : Addr) : Sp := fun vs H Q _ => ∃ (x : Addr) (xs gs : List Bool) (n : Nat), vs = [.ref x, .int n] ∧ SizAt CS H x xs gs ∧ 1 ≤ gs.length ∧ xs.length + gs.length ≤ 1000 ∧ n ≤ 1000 ∧ ∀ H' l, Same H H' → H' l = some (.lst ((boolsW (xs ++ gs) xs.length gs.length n).map V.bl)) → H l = none → Q (.ref l) H'
theorem ok_fb {CS f fFt : Addr} {fd fdFt : FuncData} (F : Fun K "first_bools" "first_bools" s_fb f fd) (U : Blt mg) (SC : SizC K CS) (Ft : Fun K "first_told" "first_told" s_ft fFt fdFt) (gFt : mg "first_told" = some (.ref fFt)) (b_ft : L2.Binds K fdFt ["told", "begin", "count"] []) : FnOk P w K mg base CX0 2 f fd ["sizes", "count"] (spFb CS) := by
  have G_ft : FnOk P w K mg base CX0 1 fFt fdFt ["told", "begin", "count"] spFt := ok_ft Ft U
  refine F.ok sc_fb (fun vs H Q E h => ?_) (fun cdv A outer s H vs Q E hr h => ?_)
  · obtain ⟨x, xs, gs, n, rfl, _⟩ := h
    rfl
  · obtain ⟨x, xs, gs, n, rfl, ⟨dx, t, u, hx, ht, hu⟩, g1, few, nb, fin⟩ := h
    refine ⟨_, (pss_one (ps_ret (pe_call G_ft (hr.mono (by decide)) rfl gFt Ft.kp b_ft .nil pass0 (by exact (pa_cons (pe_op op_catA (pe_fld (pv 0) rfl) (pe_fld (pv 0) rfl)) (pa_cons (pe_callB call_len rfl U.z_len (by decide +kernel) (pa_cons (pe_fld (pv 0) rfl) pa_nil)) (pa_cons (pv 1) pa_nil))))))), ?_⟩
    have sz : (2000000 : Nat) ≤ sizeLine := by show 2000000 ≤ 16777216; decide
    refine ⟨_, rfl, x, CS, dx, _, _, rfl, hx, SC.cl, SC.nAhead, sfs_a _ _, _, rfl, x, CS, dx, _, _, rfl, hx, SC.cl, SC.nAgain, sfs_g _ _, cat_b ht hu (by rw [List.length_map, List.length_map]; omega) fun t2 H2 s2 h2 => ?_⟩
    rw [← List.map_append] at h2
    have lA : LenV K (.ref t) H2 xs.length := by
      have q := SeqAt2.len (K := K) (SqB.ii (t := true) (show SqB true H2 t (xs.map V.bl) from s2 _ _ ht))
      rw [List.length_map] at q
      exact q
    refine ⟨_, rfl, x, CS, dx, _, _, rfl, s2 _ _ hx, SC.cl, SC.nAhead, sfs_a _ _, _, _, rfl, lA, _, rfl, t2, xs, gs, n, rfl, h2, g1, few, nb, fun H3 l s3 hl nl => ?_⟩
    exact fin H3 l (s2.trans s3) hl (un_same s2 nl)
abbrev s_ps : Stmt := topS 24
theorem sc_ps : FnScope ["row", "ahead"] ["row", "ahead"] (defScope s_ps) := ⟨rfl, rfl, rfl, by decide +kernel, rfl, by decide +kernel, by decide +kernel⟩
def spPs (CS : Addr) : Sp := fun vs H Q _ => ∃ (l : Addr) (row : List Bool) (a n : Nat), vs = [.ref l, .int a] ∧ H l = some (.lst (row.map V.bl)) ∧ row.length = a + n ∧ 1 ≤ n ∧ a + n ≤ 1000 ∧
  ∀ H' x b p, Same H H' → Form (atW (bz row) a n) b p → b + p ≤ a + n → SizAt CS H' x (boolsW row a n b) (ringW row a n b p) → Q (.ref x) H'
theorem ok_ps {CS f fSi : Addr} {fd fdSi : FuncData} (F : Fun K "parted_sizes" "parted_sizes" s_ps f fd) (gSiz : mg "Sizes" = some (.ref CS)) (MkS : Mk K CS fSi) (b_si : L2.Binds K fdSi ["self", "ahead", "again"] []) (G_si : FnOk P w K mg base CX0 4 fSi fdSi ["self", "ahead", "again"] (spSizes CS)) : FnOk P w K mg base CX0 6 f fd ["row", "ahead"] (spPs CS) := by
  refine F.ok sc_ps (fun vs H Q E h => ?_) (fun cdv A outer s H vs Q E hr h => ?_)
  · obtain ⟨l, row, a, n, rfl, _⟩ := h
    rfl
  · obtain ⟨l, row, a, n, rfl, hl, len, n1, few, fin⟩ := h
    refine ⟨_, (pss_one (ps_ret (pe_box (pe_make MkS G_si (hr.mono (by decide)) rfl gSiz b_si .nil pass0 (by exact (pa_cons (pe_slice sl_list (pv 0) po_none (po_some (pv 1))) (pa_cons (pe_slice sl_list (pv 0) (po_some (pv 1)) po_none) pa_nil))))))), ?_⟩
    have l1 : (row.take a).length = a := by rw [List.length_take]; omega
    have l2 : (row.drop a).length = n := by rw [List.length_drop]; omega
    refine sizN_box (as := row.take a) (gs := row.drop a) (fun R k => ?_) (by omega) (by omega) fun H' x b p s f le at_ => ?_
    · refine ⟨_, rfl, _, rfl, _, rfl, l, _, rfl, SqL.of hl, fun t1 ht1 => ?_⟩
      have s1 := Same.new (o := .lst (cutV (row.map V.bl) none (some (a : Int)))) ht1
      refine ⟨_, rfl, _, rfl, _, rfl, l, _, rfl, SqL.of (s1 _ _ hl), fun t2 ht2 => ?_⟩
      have s2 := Same.new (o := .lst (cutV (row.map V.bl) (some (a : Int)) none)) ht2
      refine k _ t1 t2 false false (s1.trans s2) ?_ ?_
      · show _ = some (HO.lst _)
        rw [s2 _ _ upd_same, cutV_take, List.map_take]
      · show _ = some (HO.lst _)
        rw [upd_same, cutV_drop, List.map_drop]
    · rw [List.take_append_drop, l1, l2] at f at_
      exact fin H' x b p s f (by omega) at_
end
end Fz
set_option Elab.async false
set_option linter.all false
set_option maxRecDepth 100000
set_option maxHeartbeats 2000000
namespace Fz
open PySem PySem.Spec PyProof.Rows L2
/-- one step of a reading -/
local macro_rules | `(tactic| walk_at "st") => `(tactic| first
  | refine ⟨_, rfl, ?_⟩
  | refine Or.inl ⟨_, rfl, ?_⟩
  | refine Or.inr ⟨_, rfl, ?_⟩
  | refine ⟨_, _, _, _, rfl, rfl, SqL.of (by first | assumption | exact upd_same), rfl, ?_⟩
  | refine ⟨_, _, _, _, rfl, rfl, (by first | assumption | exact upd_same), rfl, ?_⟩
  | refine ⟨_, _, rfl, .inl ⟨_, SqL.of (by first | assumption | exact upd_same), rfl⟩, ?_⟩
  | refine ⟨_, _, rfl, rfl, (show (0 : Int) < _ by first | decide | omega), ?_⟩
  | refine ⟨_, _, rfl, rfl, (show (0 : Int) < _ ∧ _ < _ by first | exact ⟨by decide, by decide⟩ | omega), ?_⟩
  | refine ⟨_, _, rfl, rfl, (show (_ < _ ∧ _ < _) ∨ (_ < _ ∧ _ < _) by first | exact .inl ⟨by decide, by decide⟩ | omega), ?_⟩
  | refine ⟨_, _, rfl, rfl, (show (0 : Int) ≤ _ ∧ _ ≤ _ ∧ _ < _ by first | exact ⟨by decide, by decide, by decide⟩ | exact ⟨by decide, by decide, by omega⟩), ?_⟩
  | refine ⟨_, _, rfl, rfl, ?_⟩)

section
variable {P : Program} {w : World} {K : PySem.W.Frag} {mg : Str → Option Value} {base : Heap}

abbrev s_inv : Stmt := inClass (topS 17) 14
theorem sc_inv : FnScope ["self", "bit"] ["self"] (defScope s_inv) := ⟨rfl, rfl, rfl, by decide +kernel, rfl, by decide +kernel, by decide +kernel⟩
/-- the set that x tells -/
structure Tells (CS : Addr) (H : Hp) (x : Addr) (B P : Nat) (f : Nat → Bool) : Prop where
  ex : ∃ xs gs, SizAt CS H x xs gs ∧ LeastS xs gs ∧ xs.length ≤ B ∧ (∃ k, P = gs.length * k) ∧ ∀ h, sizB xs gs h = f h
theorem Tells.same {CS : Addr} {H H' : Hp} {x : Addr} {B P : Nat} {f : Nat → Bool} (t : Tells CS H x B P f) (s : Same H H') : Tells CS H' x B P f := by
  obtain ⟨xs, gs, a, b, c, d, e⟩ := t.ex
  exact ⟨xs, gs, a.same s, b, c, d, e⟩
theorem least_eq {xs gs xs' gs' : List Bool} (a : LeastS xs gs) (b : LeastS xs' gs') (e : ∀ h, sizB xs gs h = sizB xs' gs' h) : xs = xs' ∧ gs = gs' := by
  obtain ⟨row, m, n, b1, p1, f1, rfl, rfl, l1⟩ := a.ex
  obtain ⟨row', m', n', b2, p2, f2, rfl, rfl, l2⟩ := b.ex
  have same : ∀ i, atB row m n i = atB row' m' n' i := fun i => by rw [← siz_form f1, ← siz_form f2]; exact e i
  have sameW : atW (bz row) m n = atW (bz row') m' n' := funext fun i => by rw [atW_bz, atW_bz, same i]
  rw [sameW] at f1
  obtain ⟨rfl, rfl⟩ := f1.uniq f2
  exact ⟨boolsW_congr same, ringW_congr same⟩
theorem atB_map (h : Bool → Bool) {row : List Bool} {a n i : Nat} (hl : row.length = a + n) (n1 : 1 ≤ n) : atB (row.map h) a n i = h (atB row a n i) := by
  unfold atB
  have get : ∀ j, j < a + n → (row.map h).getD j false = h (row.getD j false) := fun j hj => by
    rw [List.getD_eq_getElem?_getD, List.getElem?_map, List.getD_eq_getElem?_getD, List.getElem?_eq_getElem (by omega)]
    rfl
  have m := Nat.mod_lt (i - a) (show n > 0 by omega)
  split
  · exact get _ (by omega)
  · exact get _ (by omega)
def spInv (CS : Addr) : Sp := fun vs H Q _ => ∃ (x : Addr) (B P : Nat) (f : Nat → Bool), vs = [.ref x] ∧ Tells CS H x B P f ∧ ∀ H' y, Same H H' → Tells CS H' y B P (fun h => !f h) → Q (.ref y) H'
theorem ok_inv {CS f fPs : Addr} {fd fdPs : FuncData} (F : Fun K "__invert__" "Sizes.__invert__" s_inv f fd) (U : Blt mg) (SC : SizC K CS) (Ps : Fun K "parted_sizes" "parted_sizes" s_ps fPs fdPs) (gPs : mg "parted_sizes" = some (.ref fPs)) (b_ps : L2.Binds K fdPs ["row", "ahead"] [])
    (G_ps : FnOk P w K mg base CX0 6 fPs fdPs ["row", "ahead"] (spPs CS)) : FnOk P w K mg base CX0 7 f fd ["self"] (spInv CS) := by
  refine F.ok sc_inv (fun vs H Q E h => ?_) (fun cdv A outer s H vs Q E hr h => ?_)
  · obtain ⟨x, B, P, f, rfl, _⟩ := h
    rfl
  · obtain ⟨x, B, P, f, rfl, tells, fin⟩ := h
    obtain ⟨xs, gs, ⟨dx, t, u, hx, ht, hu⟩, ls, lb, per, mean⟩ := tells.ex
    obtain ⟨g1, few⟩ := ls.len
    refine ⟨_, (pss_one (ps_ret (pe_call G_ps (hr.mono (by decide)) rfl gPs Ps.kp b_ps .nil pass0 (by exact (pa_cons (pe_lc (own := [("bit", 1)]) rfl sc_inv.nd (pi_tup (pe_op op_catA (pe_fld (pv 0) rfl) (pe_fld (pv 0) rfl))) (blkOk_by (by kernel_rfl)) (fun s_ H_ C_ cl_ fp_ => (pg_name (i := 1) sc_inv.nd rfl (Or.inl rfl))) (fun s_ H_ C_ cl_ fp_ => pts_nil) (fun s_ H_ C_ cl_ fp_ => (pe_not (pv 1)))) (pa_cons (pe_callB call_len rfl U.z_len (by decide +kernel) (pa_cons (pe_fld (pv 0) rfl) pa_nil)) pa_nil)))))), ?_⟩
    have sz : (2000000 : Nat) ≤ sizeLine := by show 2000000 ≤ 16777216; decide
    refine ⟨_, rfl, x, CS, dx, _, _, rfl, hx, SC.cl, SC.nAhead, sfs_a _ _, _, rfl, x, CS, dx, _, _, rfl, hx, SC.cl, SC.nAgain, sfs_g _ _, cat_b ht hu (by rw [List.length_map, List.length_map]; omega) fun t2 H2 s2 h2 => ?_⟩
    rw [← List.map_append] at h2
    have al : (xs ++ gs).length = xs.length + gs.length := List.length_append ..
    refine ⟨t2, rfl, ⟨_, SqT.of h2⟩, fun D hD => ?_⟩
    have lA : ∀ {H' : Hp}, Same H2 H' → LenV K (.ref t) H' xs.length := fun {H'} s => by
      have q := SeqAt2.len (K := K) (SqB.ii (t := true) (show SqB true H' t (xs.map V.bl) from s _ _ (s2 _ _ ht)))
      rw [List.length_map] at q
      exact q
    refine lc_it (walk_tup (K := K) (a := t2) (xs := (xs ++ gs).map V.bl)) (fun i H' => Same H2 H' ∧ H' D = some (.lst ((((xs ++ gs).take i).map not).map V.bl))) ⟨Same.new hD, upd_same⟩ (fun i H' _ q => SqT.of (q.1 _ _ h2)) (fun i y H' H3 lt q yy => ?_) (fun H' q => ?_)
    · obtain ⟨rfl, hi⟩ := yy
      rw [List.getElem?_map] at hi
      obtain ⟨b1, hb, rfl⟩ := Option.map_eq_some_iff.mp hi
      refine ⟨rfl, ?_⟩
      refine iteT (B := Same H2 H3 ∧ H3 D = some (.lst ((((xs ++ gs).take (i + 1)).map not).map V.bl))) ?_
      refine ⟨_, rfl, _, rfl, _, q.2, by rw [List.length_map, List.length_map, List.length_take]; omega, fun b' o e => ?_, ?_⟩
      · have nb : b' ≠ D := fun z => by rw [z, hD] at e; cases e
        rw [upd_ne nb]
        exact q.1 b' o e
      · rw [upd_same, List.take_succ, hb, List.map_append, List.map_append]
        rfl
    · rw [List.length_map, List.take_length] at q
      have hx' := q.1 _ _ (s2 _ _ hx)
      refine ⟨_, rfl, x, CS, dx, _, _, rfl, hx', SC.cl, SC.nAhead, sfs_a _ _, _, _, rfl, lA q.1, D, (xs ++ gs).map not, xs.length, gs.length, rfl, q.2, by rw [List.length_map, al], g1, by omega, fun H4 y b p s4 fo le at_ => ?_⟩
      refine fin H4 y ((s2.trans q.1).trans s4) ⟨_, _, at_, ⟨⟨_, _, _, _, _, fo, rfl, rfl, by omega⟩⟩, by rw [boolsW_len]; exact Nat.le_trans (fo.early g1) lb, ?_, fun h => ?_⟩
      · obtain ⟨k, ek⟩ := per
        obtain ⟨j, ej⟩ := fo.dvd g1
        exact ⟨j * k, by rw [ring_len, ek, ej, Nat.mul_assoc]⟩
      · rw [siz_form fo, atB_map _ al g1, ← sizB_app g1, mean]
end
end Fz
set_option Elab.async false
set_option linter.all false
set_option maxRecDepth 100000
set_option maxHeartbeats 2000000
namespace Fz
open PySem PySem.Spec PyProof.Rows L2
/-- one step of a reading -/
local macro_rules | `(tactic| walk_at "st") => `(tactic| first
  | refine ⟨_, rfl, ?_⟩
  | refine Or.inl ⟨_, rfl, ?_⟩
  | refine Or.inr ⟨_, rfl, ?_⟩
  | refine ⟨_, _, _, _, rfl, rfl, SqL.of (by first | assumption | exact upd_same), rfl, ?_⟩
  | refine ⟨_, _, _, _, rfl, rfl, (by first | assumption | exact upd_same), rfl, ?_⟩
  | refine ⟨_, _, rfl, .inl ⟨_, SqL.of (by first | assumption | exact upd_same), rfl⟩, ?_⟩
  | refine ⟨_, _, rfl, rfl, (show (0 : Int) < _ by first | decide | omega), ?_⟩
  | refine ⟨_, _, rfl, rfl, (show (0 : Int) < _ ∧ _ < _ by first | exact ⟨by decide, by decide⟩ | omega), ?_⟩
  | refine ⟨_, _, rfl, rfl, (show (_ < _ ∧ _ < _) ∨ (_ < _ ∧ _ < _) by first | exact .inl ⟨by decide, by decide⟩ | omega), ?_⟩
  | refine ⟨_, _, rfl, rfl, (show (0 : Int) ≤ _ ∧ _ ≤ _ ∧ _ < _ by first | exact ⟨by decide, by decide, by decide⟩ | exact ⟨by decide, by decide, by omega⟩), ?_⟩
  | refine ⟨_, _, rfl, rfl, ?_⟩)

section
variable {P : Program} {w : World} {K : PySem.W.Frag} {mg : Str → Option Value} {base : Heap}

/-- math.lcm of two lengths -/
def rLcm : List V → Hp → VK → Prop := fun vs H Q => ∃ a b : Nat, vs = [.int a, .int b] ∧ a ≤ 1000 ∧ b ≤ 1000 ∧ Q (.int ((Nat.lcm a b : Nat) : Int)) H
theorem cr_lcm {X : Cx} : CallR X (.builtin "math.lcm") rLcm := by
  intro pins s σ H vs us Q I r h
  obtain ⟨a, b, rfl, ha, hb, q⟩ := h
  obtain ⟨t, u, rfl⟩ := Vals.int2 r
  have le : Nat.lcm a b ≤ a * b := PySem.W.mc_lcm_le a b
  have le2 : a * b ≤ 1000 * 1000 := Nat.mul_le_mul ha hb
  refine PySem.W.mg_lcm_v (c := ((Nat.lcm a b : Nat) : Int)) ?_ ?_ ?_ ?_ ⟨.int _, H, I.tok _, ⟨_, rfl⟩, q⟩
  · rw [Int.natAbs_natCast]; omega
  · rw [Int.natAbs_natCast]; omega
  · rw [Int.natAbs_natCast, Int.natAbs_natCast, PySem.W.mc_lcm_one]
  · rw [Int.natAbs_natCast]
    exact Nat.lt_of_le_of_lt (Nat.le_trans (Nat.log2_le_self _) (show Nat.lcm a b ≤ 1000000 by omega)) (by decide)
abbrev s_tm : Stmt := inClass (topS 6) 0
theorem sc_tm : FnScope ["self", "what", "most"] ["self", "what", "most"] (defScope s_tm) := ⟨rfl, rfl, rfl, by decide +kernel, rfl, by decide +kernel, by decide +kernel⟩
theorem ok_tm {f C : Addr} {n : Str} {fd : FuncData} (F : Fun K "__init__" "TooMany.__init__" s_tm f fd) (T : PrgE2 K mg n "what" "most" C f) : FnOk P w K mg base CX0 1 f fd ["self", "what", "most"] (spE2 C "what" "most") := by
  refine F.ok sc_tm (fun vs H Q E h => ?_) (fun cdv A outer s H vs Q E hr h => ?_)
  · obtain ⟨a, x, y, rfl, _⟩ := h
    rfl
  · obtain ⟨a, x, y, rfl, ha, k⟩ := h
    refine ⟨_, (pss_cons (ps_ost (pv 0) (pv 1))
  (pss_one (ps_ost (pv 0) (pv 2)))), ?_⟩
    exact ⟨_, rfl, _, rfl, a, C, rfl, T.oB, T.nF, .inl ⟨ha, fun d n ne => ⟨_, rfl, _, rfl, a, C, rfl, T.oB, T.nG, .inr ⟨d, [("what", x)], upd_same, by rw [upd_ne ne, upd_same], by show 1 ≤ 900; decide, k d n ne⟩⟩⟩⟩
abbrev s_cm : Stmt := topS 22
theorem sc_cm : FnScope ["one", "other", "ahead", "count"] ["one", "other"] (defScope s_cm) := ⟨rfl, rfl, rfl, by decide +kernel, rfl, by decide +kernel, by decide +kernel⟩
def spCm (CS CM : Addr) : Sp := fun vs H Q E => ∃ (x y : Addr) (xs gs xs' gs' : List Bool), vs = [.ref x, .ref y] ∧ SizAt CS H x xs gs ∧ SizAt CS H y xs' gs' ∧ 1 ≤ gs.length ∧ 1 ≤ gs'.length ∧ xs.length + gs.length ≤ 1000 ∧ xs'.length + gs'.length ≤ 1000 ∧
  (1000 < max xs.length xs'.length + Nat.lcm gs.length gs'.length → BadE2 CM "what" "most" (.str "sizes") (.int 1000) E H) ∧
  (max xs.length xs'.length + Nat.lcm gs.length gs'.length ≤ 1000 → ∀ (H' : Hp) (t l : Addr) (as : List Addr), Same H H' → H' t = some (.tup [.ref l, .int (max xs.length xs'.length : Nat)]) → H' l = some (.lst (as.map V.ref)) → as.length = max xs.length xs'.length + Nat.lcm gs.length gs'.length → (∀ (j : Nat) (a : Addr), as[j]? = some a → H' a = some (.tup [.bl (sizB xs gs j), .bl (sizB xs' gs' j)])) → Q (.ref t) H')
theorem ok_cm {CS CM f fFb fFt fTm : Addr} {fd fdFb fdFt fdTm : FuncData} (F : Fun K "common_rows" "common_rows" s_cm f fd) (U : Blt mg) (gZip : mg "zip" = none) (gLcm : mg "lcm" = some (.builtin "math.lcm")) (SC : SizC K CS) (ty : TyC K CS) (self_ : PySem.W.kitOne K (.ref CS) (.ref CS) = some true) (gSiz : mg "Sizes" = some (.ref CS)) (rdS : ClX.CRead K CS (.type "type")) (mostS : ∃ u, ClX.CVal K CS (.type "type") "MOST" (.int 1000) u)
    (Fb : Fun K "first_bools" "first_bools" s_fb fFb fdFb) (gFb : mg "first_bools" = some (.ref fFb)) (b_fb : L2.Binds K fdFb ["sizes", "count"] [])
    (Ft : Fun K "first_told" "first_told" s_ft fFt fdFt) (gFt : mg "first_told" = some (.ref fFt)) (b_ft : L2.Binds K fdFt ["told", "begin", "count"] [])
    (PM : PrgE2 K mg "TooMany" "what" "most" CM fTm) (Tm : Fun K "__init__" "TooMany.__init__" s_tm fTm fdTm) (b_tm : L2.Binds K fdTm ["self", "what", "most"] []) : FnOk P w K mg base (L2.CX P w) 3 f fd ["one", "other"] (spCm CS CM) := by
  have G_fb : FnOk P w K mg base CX0 2 fFb fdFb ["sizes", "count"] (spFb CS) := ok_fb Fb U SC Ft gFt b_ft
  have G_tm : FnOk P w K mg base CX0 1 fTm fdTm ["self", "what", "most"] (spE2 CM "what" "most") := ok_tm Tm PM
  refine F.okX sc_cm (fun vs H Q E h => ?_) (fun cdv A outer s H vs Q E hr h => ?_)
  · obtain ⟨x, y, xs, gs, xs', gs', rfl, _⟩ := h
    rfl
  · obtain ⟨x, y, xs, gs, xs', gs', rfl, hx, hy, g1, g1', few, few', bad, fin⟩ := h
    refine ⟨_, (pss_cons (ps_if (pt_not (pt_val (pe_callB call_isi rfl U.z_isinstance (by decide +kernel) (pa_cons (pv 1) (pa_cons (pe_glob (v := .ref _) rfl gSiz rfl) pa_nil))))) (pss_one (ps_never)) pss_nil)
  (pss_cons (ps_set (i := 2) sc_cm.nd rfl (Or.inl rfl) (pe_callB (call_max2 rfl) rfl U.z_max (by decide +kernel) (pa_cons (pe_callB call_len rfl U.z_len (by decide +kernel) (pa_cons (pe_fld (pv 0) rfl) pa_nil)) (pa_cons (pe_callB call_len rfl U.z_len (by decide +kernel) (pa_cons (pe_fld (pv 1) rfl) pa_nil)) pa_nil))))
  (pss_cons (ps_set (i := 3) sc_cm.nd rfl (Or.inl rfl) (pe_op op_add (pv 2) (pe_callBfun cr_lcm rfl gLcm (pa_cons (pe_callB call_len rfl U.z_len (by decide +kernel) (pa_cons (pe_fld (pv 0) rfl) pa_nil)) (pa_cons (pe_callB call_len rfl U.z_len (by decide +kernel) (pa_cons (pe_fld (pv 1) rfl) pa_nil)) pa_nil)))))
  (pss_cons (ps_if (pt_cmpR op_gt (pv 3) (ClX.pe_cval (pe_glob (v := .ref _) rfl gSiz rfl)) (nomark _)) (pss_one (ps_raise rfl (takes_of rfl rfl rfl rfl) (pmk_oex PM.oB PM.iB PM.tB G_tm (hr.mono (by decide)) b_tm .nil pass0 rfl PM.g_ (by exact (pa_cons pe_str (pa_cons (ClX.pe_cval (pe_glob (v := .ref _) rfl gSiz rfl)) pa_nil)))))) pss_nil)
  (pss_one (ps_ret (pe_tup (pa_cons (pe_listZip rfl rfl U.z_list rfl gZip (pa_cons (pe_call G_fb (hr.mono (by decide)) rfl gFb Fb.kp b_fb .nil pass0 (by exact (pa_cons (pv 0) (pa_cons (pv 3) pa_nil)))) (pa_cons (pe_call G_fb (hr.mono (by decide)) rfl gFb Fb.kp b_fb .nil pass0 (by exact (pa_cons (pv 1) (pa_cons (pv 3) pa_nil)))) pa_nil))) (pa_cons (pv 2) pa_nil))))))))), ?_⟩
    have sz : (2000000 : Nat) ≤ sizeLine := by show 2000000 ≤ 16777216; decide
    obtain ⟨dx, t1, u1, cx, ct1, cu1⟩ := id hx
    obtain ⟨dy, t2, u2, cy, ct2, cu2⟩ := id hy
    have ln : ∀ {H' : Hp} {t : Addr} {bs : List Bool}, H' t = some (.tup (bs.map V.bl)) → LenV K (.ref t) H' bs.length := fun {H' t bs} h => by
      have q := SeqAt2.len (K := K) (SqB.ii (t := true) (show SqB true H' t (bs.map V.bl) from h))
      rw [List.length_map] at q
      exact q
    refine ⟨_, rfl, _, _, _, _, _, rfl, .own CS, ty.ty SC.cl cy, self_, _, rfl, iteF ?_⟩
    refine ⟨_, rfl, x, CS, dx, _, _, rfl, cx, SC.cl, SC.nAhead, sfs_a _ _, _, _, rfl, ln ct1, _, rfl, y, CS, dy, _, _, rfl, cy, SC.cl, SC.nAhead, sfs_a _ _, _, _, rfl, ln ct2, _, _, rfl, ?_⟩
    obtain ⟨a, ea⟩ : ∃ a, a = max xs.length xs'.length := ⟨_, rfl⟩
    obtain ⟨n, en⟩ : ∃ n, n = Nat.lcm gs.length gs'.length := ⟨_, rfl⟩
    have em : (if (xs'.length : Int) > (xs.length : Int) then (xs'.length : Int) else (xs.length : Int)) = (a : Int) := by
      rw [ea]
      split <;> omega
    rw [← ea, ← en] at bad fin
    refine ⟨_, rfl, _, rfl, x, CS, dx, _, _, rfl, cx, SC.cl, SC.nAgain, sfs_g _ _, _, _, rfl, ln cu1, _, rfl, y, CS, dy, _, _, rfl, cy, SC.cl, SC.nAgain, sfs_g _ _, _, _, rfl, ln cu2, _, _, rfl, by omega, by omega, _, _, rfl, rfl, ?_⟩
    obtain ⟨um, hum⟩ := mostS
    have ec : (if (xs'.length : Int) > (xs.length : Int) then (xs'.length : Int) else (xs.length : Int)) + ((Nat.lcm gs.length gs'.length : Nat) : Int) = ((a + n : Nat) : Int) := by
      rw [em, ← en]
      rfl
    refine ⟨_, rfl, CS, _, _, um, rfl, rdS, hum, _, _, rfl, rfl, _, rfl, ?_⟩
    refine ite2 (fun c => ?_) (fun c => ?_)
    · have c1 : (1000 : Int) < (if (xs'.length : Int) > (xs.length : Int) then (xs'.length : Int) else (xs.length : Int)) + ((Nat.lcm gs.length gs'.length : Nat) : Int) := of_decide_eq_true c
      rw [ec] at c1
      exact bade2_made (W := fun cls d _ H => E cls d H) (fun _ h => ⟨CS, _, _, um, rfl, rdS, hum, h⟩) (bad (by omega)) fun _ _ _ z => z
    have most : a + n ≤ 1000 := by
      have c1 : ¬ (1000 : Int) < (if (xs'.length : Int) > (xs.length : Int) then (xs'.length : Int) else (xs.length : Int)) + ((Nat.lcm gs.length gs'.length : Nat) : Int) := fun z => c (decide_eq_true z)
      rw [ec] at c1
      omega
    replace fin := fin most
    refine ⟨_, rfl, _, rfl, x, xs, gs, a + n, by show [V.ref x, V.int _] = _; rw [ec], hx, g1, by omega, by omega, fun H1 r1 s1 h1 n1 => ?_⟩
    refine ⟨_, rfl, _, rfl, y, xs', gs', a + n, by show [V.ref y, V.int _] = _; rw [ec], hy.same s1, g1', by omega, by omega, fun H2 r2 s2 h2 n2 => ?_⟩
    refine ⟨r1, r2, _, _, rfl, SqL.of (s2 _ _ h1), SqL.of h2, by rw [List.length_map, List.length_map, boolsW_len, boolsW_len], fun H3 l as s3 nl hl many each => ?_⟩
    refine ⟨_, rfl, by show 2 ≤ sizeLine; omega, fun t ht => ?_⟩
    have s4 := Same.new (o := .tup [V.ref l, .int (if (xs'.length : Int) > (xs.length : Int) then (xs'.length : Int) else (xs.length : Int))]) ht
    rw [List.length_map, boolsW_len] at many
    refine fin _ t l as (((s1.trans s2).trans s3).trans s4) ?_ (s4 _ _ hl) many (fun j b hj => s4 _ _ ?_)
    · rw [upd_same, em]
    · have lt : j < a + n := by
        have q := (List.getElem?_eq_some_iff.mp hj).1
        omega
      have q := each j b (.bl (sizB xs gs j)) (.bl (sizB xs' gs' j)) hj (by rw [List.getElem?_map, boolsW_at lt, sizB_app g1]; rfl) (by rw [List.getElem?_map, boolsW_at lt, sizB_app g1']; rfl)
      exact q
end
end Fz
set_option Elab.async false
set_option linter.all false
set_option maxRecDepth 100000
set_option maxHeartbeats 2000000
namespace Fz
open PySem PySem.Spec PyProof.Rows L2
/-- one step of a reading -/
local macro_rules | `(tactic| walk_at "st") => `(tactic| first
  | refine ⟨_, rfl, ?_⟩
  | refine Or.inl ⟨_, rfl, ?_⟩
  | refine Or.inr ⟨_, rfl, ?_⟩
  | refine ⟨_, _, _, _, rfl, rfl, SqL.of (by first | assumption | exact upd_same), rfl, ?_⟩
  | refine ⟨_, _, _, _, rfl, rfl, (by first | assumption | exact upd_same), rfl, ?_⟩
  | refine ⟨_, _, rfl, .inl ⟨_, SqL.of (by first | assumption | exact upd_same), rfl⟩, ?_⟩
  | refine ⟨_, _, rfl, rfl, (show (0 : Int) < _ by first | decide | omega), ?_⟩
  | refine ⟨_, _, rfl, rfl, (show (0 : Int) < _ ∧ _ < _ by first | exact ⟨by decide, by decide⟩ | omega), ?_⟩
  | refine ⟨_, _, rfl, rfl, (show (_ < _ ∧ _ < _) ∨ (_ < _ ∧ _ < _) by first | exact .inl ⟨by decide, by decide⟩ | omega), ?_⟩
  | refine ⟨_, _, rfl, rfl, (show (0 : Int) ≤ _ ∧ _ ≤ _ ∧ _ < _ by first | exact ⟨by decide, by decide, by decide⟩ | exact ⟨by decide, by decide, by omega⟩), ?_⟩
  | refine ⟨_, _, rfl, rfl, ?_⟩)

section
variable {P : Program} {w : World} {K : PySem.W.Frag} {mg : Str → Option Value} {base : Heap}

theorem sizB_per {xs gs : List Bool} {i : Nat} (h : xs.length ≤ i) (k : Nat) : sizB xs gs (i + gs.length * k) = sizB xs gs i := by
  unfold sizB
  rw [if_neg (by omega), if_neg (by omega), show i + gs.length * k - xs.length = (i - xs.length) + gs.length * k by omega, Nat.add_mul_mod_self_left]
theorem sizB_far {xs gs : List Bool} {a n h : Nat} (la : xs.length ≤ a) (d : gs.length ∣ n) (hh : a ≤ h) : sizB xs gs (a + (h - a) % n) = sizB xs gs h := by
  obtain ⟨k, rfl⟩ := d
  have q := sizB_per (xs := xs) (gs := gs) (i := a + (h - a) % (gs.length * k)) (by omega) (k * ((h - a) / (gs.length * k)))
  rw [← q]
  congr 1
  have e := Nat.mod_add_div (h - a) (gs.length * k)
  rw [Nat.mul_assoc] at e
  rw [← Nat.mul_assoc, Nat.mul_assoc gs.length k] 
  omega
/-- two rows joined -/
def joinW (op : Bool → Bool → Bool) (xs gs xs' gs' : List Bool) (m : Nat) : List Bool := (List.range m).map fun j => op (sizB xs gs j) (sizB xs' gs' j)
theorem joinW_len (op : Bool → Bool → Bool) (xs gs xs' gs' : List Bool) (m : Nat) : (joinW op xs gs xs' gs' m).length = m := by unfold joinW; rw [List.length_map, List.length_range]
theorem joinW_get {op : Bool → Bool → Bool} {xs gs xs' gs' : List Bool} {m j : Nat} (h : j < m) : (joinW op xs gs xs' gs' m).getD j false = op (sizB xs gs j) (sizB xs' gs' j) := by
  unfold joinW
  rw [List.getD_eq_getElem?_getD, List.getElem?_map, List.getElem?_range h]
  rfl
theorem join_at {op : Bool → Bool → Bool} {xs gs xs' gs' : List Bool} {a n h : Nat} (la : xs.length ≤ a) (la' : xs'.length ≤ a) (d : gs.length ∣ n) (d' : gs'.length ∣ n) (n1 : 1 ≤ n) : atB (joinW op xs gs xs' gs' (a + n)) a n h = op (sizB xs gs h) (sizB xs' gs' h) := by
  unfold atB
  have m := Nat.mod_lt (h - a) (show n > 0 by omega)
  by_cases c : h < a
  · rw [if_pos c, joinW_get (by omega)]
  · rw [if_neg c, joinW_get (by omega), sizB_far la d (by omega), sizB_far la' d' (by omega)]
def spBinX (CS CM : Addr) (op : Bool → Bool → Bool) : Sp := fun vs H Q E => ∃ (x y : Addr) (xs gs xs' gs' : List Bool), vs = [.ref x, .ref y] ∧ SizAt CS H x xs gs ∧ SizAt CS H y xs' gs' ∧ LeastS xs gs ∧ LeastS xs' gs' ∧
  (1000 < max xs.length xs'.length + Nat.lcm gs.length gs'.length → BadE2 CM "what" "most" (.str "sizes") (.int 1000) E H) ∧
  (max xs.length xs'.length + Nat.lcm gs.length gs'.length ≤ 1000 → ∀ H' z, Same H H' → Tells CS H' z (max xs.length xs'.length) (Nat.lcm gs.length gs'.length) (fun h => op (sizB xs gs h) (sizB xs' gs' h)) → Q (.ref z) H')
theorem Tells.wide {CS : Addr} {H : Hp} {z : Addr} {B P B' P' : Nat} {f g : Nat → Bool} (t : Tells CS H z B P f) (hB : B ≤ B') (hP : P ∣ P') (e : ∀ h, f h = g h) : Tells CS H z B' P' g := by
  obtain ⟨xs, gs, a, b, c, d, m⟩ := t.ex
  exact ⟨xs, gs, a, b, Nat.le_trans c hB, Nat.dvd_trans (show gs.length ∣ P from d) hP, fun h => (m h).trans (e h)⟩
theorem Tells.of_join {CS : Addr} {H : Hp} {z : Addr} {op : Bool → Bool → Bool} {xs gs xs' gs' : List Bool} {B P a n b p : Nat} {f g : Nat → Bool} (at_ : SizAt CS H z (boolsW (joinW op xs gs xs' gs' (a + n)) a n b) (ringW (joinW op xs gs xs' gs' (a + n)) a n b p)) (fo : Form (atW (bz (joinW op xs gs xs' gs' (a + n))) a n) b p) (le : b + p ≤ a + n) (few : a + n ≤ 1000)
    (la : xs.length ≤ a) (la' : xs'.length ≤ a) (aB : a ≤ B) (d : gs.length ∣ n) (d' : gs'.length ∣ n) (dP : n ∣ P) (n1 : 1 ≤ n) (mf : ∀ h, sizB xs gs h = f h) (mg_ : ∀ h, sizB xs' gs' h = g h) : Tells CS H z B P (fun h => op (f h) (g h)) := by
  refine ⟨_, _, at_, ⟨_, _, _, _, _, fo, rfl, rfl, by omega⟩, by rw [boolsW_len]; exact Nat.le_trans (fo.early n1) aB, ?_, fun h => ?_⟩
  · obtain ⟨k, ek⟩ := dP
    obtain ⟨j, ej⟩ := fo.dvd n1
    exact ⟨j * k, by rw [ring_len, ek, ej, Nat.mul_assoc]⟩
  · rw [siz_form fo, join_at la la' d d' n1, mf, mg_]
abbrev s_and : Stmt := inClass (topS 17) 10
theorem sc_and : FnScope ["self", "other", "rows", "ahead", "mine", "yours"] ["self", "other"] (defScope s_and) := ⟨rfl, rfl, rfl, by decide +kernel, rfl, by decide +kernel, by decide +kernel⟩
theorem ok_and {CS CM f fCm fPs : Addr} {fd fdCm fdPs : FuncData} (F : Fun K "__and__" "Sizes.__and__" s_and f fd) (U : Blt mg) (Cm : Fun K "common_rows" "common_rows" s_cm fCm fdCm) (gCm : mg "common_rows" = some (.ref fCm)) (b_cm : L2.Binds K fdCm ["one", "other"] []) (G_cm : FnOk P w K mg base (L2.CX P w) 3 fCm fdCm ["one", "other"] (spCm CS CM))
    (Ps : Fun K "parted_sizes" "parted_sizes" s_ps fPs fdPs) (gPs : mg "parted_sizes" = some (.ref fPs)) (b_ps : L2.Binds K fdPs ["row", "ahead"] []) (G_ps : FnOk P w K mg base CX0 6 fPs fdPs ["row", "ahead"] (spPs CS)) : FnOk P w K mg base (L2.CX P w) 7 f fd ["self", "other"] (spBinX CS CM (fun mine yours => mine && yours)) := by
  refine F.okX sc_and (fun vs H Q E h => ?_) (fun cdv A outer s H vs Q E hr h => ?_)
  · obtain ⟨x, y, xs, gs, xs', gs', rfl, _⟩ := h
    rfl
  · obtain ⟨x, y, xs, gs, xs', gs', rfl, hx, hy, ls, ls', bad, fin⟩ := h
    obtain ⟨g1, few1⟩ := ls.len
    obtain ⟨g1', few2⟩ := ls'.len
    have L1 : 1 ≤ Nat.lcm gs.length gs'.length := Nat.lcm_pos g1 g1'
    refine ⟨_, (pss_cons (ps_asg (pe_call G_cm (hr.mono (by decide)) rfl gCm Cm.kp b_cm .nil (passes_call (takes_of rfl rfl rfl rfl) (fun _ _ _ _ h => h)) (by exact (pa_cons (pv 0) (pa_cons (pv 1) pa_nil)))) (pg_tup rfl (pgs_cons (pg_name (i := 2) sc_and.nd rfl (Or.inl rfl)) (pgs_cons (pg_name (i := 3) sc_and.nd rfl (Or.inl rfl)) pgs_nil))))
  (pss_one (ps_ret (pe_call G_ps (hr.mono (by decide)) rfl gPs Ps.kp b_ps .nil pass0 (by exact (pa_cons (pe_lc (own := [("mine", 4), ("yours", 5)]) rfl sc_and.nd (pi_list (pv 2)) (blkOk_by (by kernel_rfl)) (fun s_ H_ C_ cl_ fp_ => (show PG _ _ (gTup K 2 (gCons (gName 4) (gCons (gName 5) gNil))) from pg_tup rfl (pgs_cons (pg_name (i := 4) sc_and.nd rfl (Or.inl rfl)) (pgs_cons (pg_name (i := 5) sc_and.nd rfl (Or.inl rfl)) pgs_nil)))) (fun s_ H_ C_ cl_ fp_ => pts_nil) (fun s_ H_ C_ cl_ fp_ => (show PE _ _ (tAndV (tVar 4) (tVar 5)) from pe_and (pv 4) (pe_one (pv 5))))) (pa_cons (pv 3) pa_nil))))))), ?_⟩
    have sz : (2000000 : Nat) ≤ sizeLine := by show 2000000 ≤ 16777216; decide
    refine ⟨_, rfl, _, rfl, x, y, xs, gs, xs', gs', rfl, hx, hy, g1, g1', few1, few2, bad, fun le0 H1 t l as s1 ht hl many each => ?_⟩
    replace fin := fin le0
    refine ⟨t, _, rfl, SqT.of ht, rfl, _, _, rfl, _, _, rfl, rfl, ?_⟩
    obtain ⟨a, ea⟩ : ∃ a, a = max xs.length xs'.length := ⟨_, rfl⟩
    obtain ⟨n, en⟩ : ∃ n, n = Nat.lcm gs.length gs'.length := ⟨_, rfl⟩
    have dn : gs.length ∣ n := by rw [en]; exact Nat.dvd_lcm_left ..
    have dn' : gs'.length ∣ n := by rw [en]; exact Nat.dvd_lcm_right ..
    rw [← ea, ← en] at many
    rw [← ea, ← en] at le0 fin
    rw [← en] at L1
    rw [← ea]
    refine ⟨_, rfl, l, rfl, ⟨_, SqL.of hl⟩, fun D hD => ?_⟩
    obtain ⟨jw, ejw⟩ : ∃ jw, jw = joinW (fun mine yours => mine && yours) xs gs xs' gs' (a + n) := ⟨_, rfl⟩
    have ljw : jw.length = a + n := by rw [ejw]; exact joinW_len ..
    refine lc_list (K := K) (a := l) (xs := as.map V.ref) (fun i H' => Same H1 H' ∧ H' D = some (.lst ((jw.take i).map V.bl))) ⟨Same.new hD, upd_same⟩ (fun i H' _ q => SqL.of (q.1 _ _ hl)) (fun i v H' hi q => ?_) (fun H' q => ?_)
    · rw [List.getElem?_map] at hi
      obtain ⟨c0, hc, rfl⟩ := Option.map_eq_some_iff.mp hi
      have lt : i < a + n := by have z := (List.getElem?_eq_some_iff.mp hc).1; omega
      have tup := q.1 _ _ (each i c0 hc)
      have app : ∀ z : Bool, z = (fun mine yours : Bool => mine && yours) (sizB xs gs i) (sizB xs' gs' i) → ∃ acc, H' D = some (.lst acc) ∧ acc.length < sizeLine ∧ (Same H1 (upd H' D (.lst (acc ++ [V.bl z]))) ∧ upd H' D (.lst (acc ++ [V.bl z])) D = some (.lst ((jw.take (i + 1)).map V.bl))) := fun z ez => by
        refine ⟨_, q.2, by rw [List.length_map, List.length_take]; omega, fun b' o e => ?_, ?_⟩
        · have nb : b' ≠ D := fun z => by rw [z, hD] at e; cases e
          rw [upd_ne nb]
          exact q.1 b' o e
        · have g0 := joinW_get (op := fun mine yours => mine && yours) (xs := xs) (gs := gs) (xs' := xs') (gs' := gs') lt
          rw [← ejw, List.getD_eq_getElem?_getD, List.getElem?_eq_getElem (by omega)] at g0
          have ez2 : z = jw[i] := ez.trans g0.symm
          rw [upd_same, List.take_succ, List.getElem?_eq_getElem (by omega), List.map_append, ez2]
          rfl
      refine ⟨_, _, rfl, SqT.of tup, rfl, _, _, rfl, _, _, rfl, rfl, rfl, ?_⟩
      refine iteT (B := Same H1 H' ∧ H' D = some (.lst ((jw.take (i + 1)).map V.bl))) ?_
      revert app
      generalize sizB xs gs i = u
      generalize sizB xs' gs' i = v
      intro app
      refine ⟨_, rfl, u, rfl, ?_⟩
      cases u with
      | false => exact iteF (app _ rfl)
      | true => exact iteT ⟨_, rfl, app _ rfl⟩
    · rw [List.length_map, many, List.take_of_length_le (by omega)] at q
      refine ⟨_, rfl, D, jw, a, n, rfl, q.2, ljw, L1, by omega, fun H2 z b p s2 fo le at_ => ?_⟩
      rw [ejw] at fo at_
      exact fin H2 z ((s1.trans q.1).trans s2) (Tells.of_join (op := fun mine yours => mine && yours) at_ fo le (by omega) (by omega) (by omega) (by omega) dn dn' (Nat.dvd_refl _) L1 (fun _ => rfl) (fun _ => rfl))
abbrev s_or : Stmt := inClass (topS 17) 11
theorem sc_or : FnScope ["self", "other", "rows", "ahead", "mine", "yours"] ["self", "other"] (defScope s_or) := ⟨rfl, rfl, rfl, by decide +kernel, rfl, by decide +kernel, by decide +kernel⟩
theorem ok_or {CS CM f fCm fPs : Addr} {fd fdCm fdPs : FuncData} (F : Fun K "__or__" "Sizes.__or__" s_or f fd) (U : Blt mg) (Cm : Fun K "common_rows" "common_rows" s_cm fCm fdCm) (gCm : mg "common_rows" = some (.ref fCm)) (b_cm : L2.Binds K fdCm ["one", "other"] []) (G_cm : FnOk P w K mg base (L2.CX P w) 3 fCm fdCm ["one", "other"] (spCm CS CM))
    (Ps : Fun K "parted_sizes" "parted_sizes" s_ps fPs fdPs) (gPs : mg "parted_sizes" = some (.ref fPs)) (b_ps : L2.Binds K fdPs ["row", "ahead"] []) (G_ps : FnOk P w K mg base CX0 6 fPs fdPs ["row", "ahead"] (spPs CS)) : FnOk P w K mg base (L2.CX P w) 7 f fd ["self", "other"] (spBinX CS CM (fun mine yours => mine || yours)) := by
  refine F.okX sc_or (fun vs H Q E h => ?_) (fun cdv A outer s H vs Q E hr h => ?_)
  · obtain ⟨x, y, xs, gs, xs', gs', rfl, _⟩ := h
    rfl
  · obtain ⟨x, y, xs, gs, xs', gs', rfl, hx, hy, ls, ls', bad, fin⟩ := h
    obtain ⟨g1, few1⟩ := ls.len
    obtain ⟨g1', few2⟩ := ls'.len
    have L1 : 1 ≤ Nat.lcm gs.length gs'.length := Nat.lcm_pos g1 g1'
    refine ⟨_, (pss_cons (ps_asg (pe_call G_cm (hr.mono (by decide)) rfl gCm Cm.kp b_cm .nil (passes_call (takes_of rfl rfl rfl rfl) (fun _ _ _ _ h => h)) (by exact (pa_cons (pv 0) (pa_cons (pv 1) pa_nil)))) (pg_tup rfl (pgs_cons (pg_name (i := 2) sc_or.nd rfl (Or.inl rfl)) (pgs_cons (pg_name (i := 3) sc_or.nd rfl (Or.inl rfl)) pgs_nil))))
  (pss_one (ps_ret (pe_call G_ps (hr.mono (by decide)) rfl gPs Ps.kp b_ps .nil pass0 (by exact (pa_cons (pe_lc (own := [("mine", 4), ("yours", 5)]) rfl sc_or.nd (pi_list (pv 2)) (blkOk_by (by kernel_rfl)) (fun s_ H_ C_ cl_ fp_ => (show PG _ _ (gTup K 2 (gCons (gName 4) (gCons (gName 5) gNil))) from pg_tup rfl (pgs_cons (pg_name (i := 4) sc_or.nd rfl (Or.inl rfl)) (pgs_cons (pg_name (i := 5) sc_or.nd rfl (Or.inl rfl)) pgs_nil)))) (fun s_ H_ C_ cl_ fp_ => pts_nil) (fun s_ H_ C_ cl_ fp_ => (show PE _ _ (tOrV (tVar 4) (tVar 5)) from L2.pe_or (pv 4) (pe_one (pv 5))))) (pa_cons (pv 3) pa_nil))))))), ?_⟩
    have sz : (2000000 : Nat) ≤ sizeLine := by show 2000000 ≤ 16777216; decide
    refine ⟨_, rfl, _, rfl, x, y, xs, gs, xs', gs', rfl, hx, hy, g1, g1', few1, few2, bad, fun le0 H1 t l as s1 ht hl many each => ?_⟩
    replace fin := fin le0
    refine ⟨t, _, rfl, SqT.of ht, rfl, _, _, rfl, _, _, rfl, rfl, ?_⟩
    obtain ⟨a, ea⟩ : ∃ a, a = max xs.length xs'.length := ⟨_, rfl⟩
    obtain ⟨n, en⟩ : ∃ n, n = Nat.lcm gs.length gs'.length := ⟨_, rfl⟩
    have dn : gs.length ∣ n := by rw [en]; exact Nat.dvd_lcm_left ..
    have dn' : gs'.length ∣ n := by rw [en]; exact Nat.dvd_lcm_right ..
    rw [← ea, ← en] at many
    rw [← ea, ← en] at le0 fin
    rw [← en] at L1
    rw [← ea]
    refine ⟨_, rfl, l, rfl, ⟨_, SqL.of hl⟩, fun D hD => ?_⟩
    obtain ⟨jw, ejw⟩ : ∃ jw, jw = joinW (fun mine yours => mine || yours) xs gs xs' gs' (a + n) := ⟨_, rfl⟩
    have ljw : jw.length = a + n := by rw [ejw]; exact joinW_len ..
    refine lc_list (K := K) (a := l) (xs := as.map V.ref) (fun i H' => Same H1 H' ∧ H' D = some (.lst ((jw.take i).map V.bl))) ⟨Same.new hD, upd_same⟩ (fun i H' _ q => SqL.of (q.1 _ _ hl)) (fun i v H' hi q => ?_) (fun H' q => ?_)
    · rw [List.getElem?_map] at hi
      obtain ⟨c0, hc, rfl⟩ := Option.map_eq_some_iff.mp hi
      have lt : i < a + n := by have z := (List.getElem?_eq_some_iff.mp hc).1; omega
      have tup := q.1 _ _ (each i c0 hc)
      have app : ∀ z : Bool, z = (fun mine yours : Bool => mine || yours) (sizB xs gs i) (sizB xs' gs' i) → ∃ acc, H' D = some (.lst acc) ∧ acc.length < sizeLine ∧ (Same H1 (upd H' D (.lst (acc ++ [V.bl z]))) ∧ upd H' D (.lst (acc ++ [V.bl z])) D = some (.lst ((jw.take (i + 1)).map V.bl))) := fun z ez => by
        refine ⟨_, q.2, by rw [List.length_map, List.length_take]; omega, fun b' o e => ?_, ?_⟩
        · have nb : b' ≠ D := fun z => by rw [z, hD] at e; cases e
          rw [upd_ne nb]
          exact q.1 b' o e
        · have g0 := joinW_get (op := fun mine yours => mine || yours) (xs := xs) (gs := gs) (xs' := xs') (gs' := gs') lt
          rw [← ejw, List.getD_eq_getElem?_getD, List.getElem?_eq_getElem (by omega)] at g0
          have ez2 : z = jw[i] := ez.trans g0.symm
          rw [upd_same, List.take_succ, List.getElem?_eq_getElem (by omega), List.map_append, ez2]
          rfl
      refine ⟨_, _, rfl, SqT.of tup, rfl, _, _, rfl, _, _, rfl, rfl, rfl, ?_⟩
      refine iteT (B := Same H1 H' ∧ H' D = some (.lst ((jw.take (i + 1)).map V.bl))) ?_
      revert app
      generalize sizB xs gs i = u
      generalize sizB xs' gs' i = v
      intro app
      refine ⟨_, rfl, u, rfl, ?_⟩
      cases u with
      | false => exact iteF ⟨_, rfl, app _ rfl⟩
      | true => exact iteT (app _ rfl)
    · rw [List.length_map, many, List.take_of_length_le (by omega)] at q
      refine ⟨_, rfl, D, jw, a, n, rfl, q.2, ljw, L1, by omega, fun H2 z b p s2 fo le at_ => ?_⟩
      rw [ejw] at fo at_
      exact fin H2 z ((s1.trans q.1).trans s2) (Tells.of_join (op := fun mine yours => mine || yours) at_ fo le (by omega) (by omega) (by omega) (by omega) dn dn' (Nat.dvd_refl _) L1 (fun _ => rfl) (fun _ => rfl))
abbrev s_sub : Stmt := inClass (topS 17) 12
theorem sc_sub : FnScope ["self", "other", "rows", "ahead", "mine", "yours"] ["self", "other"] (defScope s_sub) := ⟨rfl, rfl, rfl, by decide +kernel, rfl, by decide +kernel, by decide +kernel⟩
theorem ok_sub {CS CM f fCm fPs : Addr} {fd fdCm fdPs : FuncData} (F : Fun K "__sub__" "Sizes.__sub__" s_sub f fd) (U : Blt mg) (Cm : Fun K "common_rows" "common_rows" s_cm fCm fdCm) (gCm : mg "common_rows" = some (.ref fCm)) (b_cm : L2.Binds K fdCm ["one", "other"] []) (G_cm : FnOk P w K mg base (L2.CX P w) 3 fCm fdCm ["one", "other"] (spCm CS CM))
    (Ps : Fun K "parted_sizes" "parted_sizes" s_ps fPs fdPs) (gPs : mg "parted_sizes" = some (.ref fPs)) (b_ps : L2.Binds K fdPs ["row", "ahead"] []) (G_ps : FnOk P w K mg base CX0 6 fPs fdPs ["row", "ahead"] (spPs CS)) : FnOk P w K mg base (L2.CX P w) 7 f fd ["self", "other"] (spBinX CS CM (fun mine yours => mine && !yours)) := by
  refine F.okX sc_sub (fun vs H Q E h => ?_) (fun cdv A outer s H vs Q E hr h => ?_)
  · obtain ⟨x, y, xs, gs, xs', gs', rfl, _⟩ := h
    rfl
  · obtain ⟨x, y, xs, gs, xs', gs', rfl, hx, hy, ls, ls', bad, fin⟩ := h
    obtain ⟨g1, few1⟩ := ls.len
    obtain ⟨g1', few2⟩ := ls'.len
    have L1 : 1 ≤ Nat.lcm gs.length gs'.length := Nat.lcm_pos g1 g1'
    refine ⟨_, (pss_cons (ps_asg (pe_call G_cm (hr.mono (by decide)) rfl gCm Cm.kp b_cm .nil (passes_call (takes_of rfl rfl rfl rfl) (fun _ _ _ _ h => h)) (by exact (pa_cons (pv 0) (pa_cons (pv 1) pa_nil)))) (pg_tup rfl (pgs_cons (pg_name (i := 2) sc_sub.nd rfl (Or.inl rfl)) (pgs_cons (pg_name (i := 3) sc_sub.nd rfl (Or.inl rfl)) pgs_nil))))
  (pss_one (ps_ret (pe_call G_ps (hr.mono (by decide)) rfl gPs Ps.kp b_ps .nil pass0 (by exact (pa_cons (pe_lc (own := [("mine", 4), ("yours", 5)]) rfl sc_sub.nd (pi_list (pv 2)) (blkOk_by (by kernel_rfl)) (fun s_ H_ C_ cl_ fp_ => (show PG _ _ (gTup K 2 (gCons (gName 4) (gCons (gName 5) gNil))) from pg_tup rfl (pgs_cons (pg_name (i := 4) sc_sub.nd rfl (Or.inl rfl)) (pgs_cons (pg_name (i := 5) sc_sub.nd rfl (Or.inl rfl)) pgs_nil)))) (fun s_ H_ C_ cl_ fp_ => pts_nil) (fun s_ H_ C_ cl_ fp_ => (show PE _ _ (tAndV (tVar 4) (tNotV (tVar 5))) from pe_and (pv 4) (pe_one (pe_not (pv 5)))))) (pa_cons (pv 3) pa_nil))))))), ?_⟩
    have sz : (2000000 : Nat) ≤ sizeLine := by show 2000000 ≤ 16777216; decide
    refine ⟨_, rfl, _, rfl, x, y, xs, gs, xs', gs', rfl, hx, hy, g1, g1', few1, few2, bad, fun le0 H1 t l as s1 ht hl many each => ?_⟩
    replace fin := fin le0
    refine ⟨t, _, rfl, SqT.of ht, rfl, _, _, rfl, _, _, rfl, rfl, ?_⟩
    obtain ⟨a, ea⟩ : ∃ a, a = max xs.length xs'.length := ⟨_, rfl⟩
    obtain ⟨n, en⟩ : ∃ n, n = Nat.lcm gs.length gs'.length := ⟨_, rfl⟩
    have dn : gs.length ∣ n := by rw [en]; exact Nat.dvd_lcm_left ..
    have dn' : gs'.length ∣ n := by rw [en]; exact Nat.dvd_lcm_right ..
    rw [← ea, ← en] at many
    rw [← ea, ← en] at le0 fin
    rw [← en] at L1
    rw [← ea]
    refine ⟨_, rfl, l, rfl, ⟨_, SqL.of hl⟩, fun D hD => ?_⟩
    obtain ⟨jw, ejw⟩ : ∃ jw, jw = joinW (fun mine yours => mine && !yours) xs gs xs' gs' (a + n) := ⟨_, rfl⟩
    have ljw : jw.length = a + n := by rw [ejw]; exact joinW_len ..
    refine lc_list (K := K) (a := l) (xs := as.map V.ref) (fun i H' => Same H1 H' ∧ H' D = some (.lst ((jw.take i).map V.bl))) ⟨Same.new hD, upd_same⟩ (fun i H' _ q => SqL.of (q.1 _ _ hl)) (fun i v H' hi q => ?_) (fun H' q => ?_)
    · rw [List.getElem?_map] at hi
      obtain ⟨c0, hc, rfl⟩ := Option.map_eq_some_iff.mp hi
      have lt : i < a + n := by have z := (List.getElem?_eq_some_iff.mp hc).1; omega
      have tup := q.1 _ _ (each i c0 hc)
      have app : ∀ z : Bool, z = (fun mine yours : Bool => mine && !yours) (sizB xs gs i) (sizB xs' gs' i) → ∃ acc, H' D = some (.lst acc) ∧ acc.length < sizeLine ∧ (Same H1 (upd H' D (.lst (acc ++ [V.bl z]))) ∧ upd H' D (.lst (acc ++ [V.bl z])) D = some (.lst ((jw.take (i + 1)).map V.bl))) := fun z ez => by
        refine ⟨_, q.2, by rw [List.length_map, List.length_take]; omega, fun b' o e => ?_, ?_⟩
        · have nb : b' ≠ D := fun z => by rw [z, hD] at e; cases e
          rw [upd_ne nb]
          exact q.1 b' o e
        · have g0 := joinW_get (op := fun mine yours => mine && !yours) (xs := xs) (gs := gs) (xs' := xs') (gs' := gs') lt
          rw [← ejw, List.getD_eq_getElem?_getD, List.getElem?_eq_getElem (by omega)] at g0
          have ez2 : z = jw[i] := ez.trans g0.symm
          rw [upd_same, List.take_succ, List.getElem?_eq_getElem (by omega), List.map_append, ez2]
          rfl
      refine ⟨_, _, rfl, SqT.of tup, rfl, _, _, rfl, _, _, rfl, rfl, rfl, ?_⟩
      refine iteT (B := Same H1 H' ∧ H' D = some (.lst ((jw.take (i + 1)).map V.bl))) ?_
      revert app
      generalize sizB xs gs i = u
      generalize sizB xs' gs' i = v
      intro app
      refine ⟨_, rfl, u, rfl, ?_⟩
      cases u with
      | false => exact iteF (app _ rfl)
      | true => exact iteT ⟨_, rfl, v, rfl, app _ rfl⟩
    · rw [List.length_map, many, List.take_of_length_le (by omega)] at q
      refine ⟨_, rfl, D, jw, a, n, rfl, q.2, ljw, L1, by omega, fun H2 z b p s2 fo le at_ => ?_⟩
      rw [ejw] at fo at_
      exact fin H2 z ((s1.trans q.1).trans s2) (Tells.of_join (op := fun mine yours => mine && !yours) at_ fo le (by omega) (by omega) (by omega) (by omega) dn dn' (Nat.dvd_refl _) L1 (fun _ => rfl) (fun _ => rfl))
abbrev s_xor : Stmt := inClass (topS 17) 13
theorem sc_xor : FnScope ["self", "other", "rows", "ahead", "mine", "yours"] ["self", "other"] (defScope s_xor) := ⟨rfl, rfl, rfl, by decide +kernel, rfl, by decide +kernel, by decide +kernel⟩
theorem ok_xor {CS CM f fCm fPs : Addr} {fd fdCm fdPs : FuncData} (F : Fun K "__xor__" "Sizes.__xor__" s_xor f fd) (U : Blt mg) (Cm : Fun K "common_rows" "common_rows" s_cm fCm fdCm) (gCm : mg "common_rows" = some (.ref fCm)) (b_cm : L2.Binds K fdCm ["one", "other"] []) (G_cm : FnOk P w K mg base (L2.CX P w) 3 fCm fdCm ["one", "other"] (spCm CS CM))
    (Ps : Fun K "parted_sizes" "parted_sizes" s_ps fPs fdPs) (gPs : mg "parted_sizes" = some (.ref fPs)) (b_ps : L2.Binds K fdPs ["row", "ahead"] []) (G_ps : FnOk P w K mg base CX0 6 fPs fdPs ["row", "ahead"] (spPs CS)) : FnOk P w K mg base (L2.CX P w) 7 f fd ["self", "other"] (spBinX CS CM (fun mine yours => mine != yours)) := by
  refine F.okX sc_xor (fun vs H Q E h => ?_) (fun cdv A outer s H vs Q E hr h => ?_)
  · obtain ⟨x, y, xs, gs, xs', gs', rfl, _⟩ := h
    rfl
  · obtain ⟨x, y, xs, gs, xs', gs', rfl, hx, hy, ls, ls', bad, fin⟩ := h
    obtain ⟨g1, few1⟩ := ls.len
    obtain ⟨g1', few2⟩ := ls'.len
    have L1 : 1 ≤ Nat.lcm gs.length gs'.length := Nat.lcm_pos g1 g1'
    refine ⟨_, (pss_cons (ps_asg (pe_call G_cm (hr.mono (by decide)) rfl gCm Cm.kp b_cm .nil (passes_call (takes_of rfl rfl rfl rfl) (fun _ _ _ _ h => h)) (by exact (pa_cons (pv 0) (pa_cons (pv 1) pa_nil)))) (pg_tup rfl (pgs_cons (pg_name (i := 2) sc_xor.nd rfl (Or.inl rfl)) (pgs_cons (pg_name (i := 3) sc_xor.nd rfl (Or.inl rfl)) pgs_nil))))
  (pss_one (ps_ret (pe_call G_ps (hr.mono (by decide)) rfl gPs Ps.kp b_ps .nil pass0 (by exact (pa_cons (pe_lc (own := [("mine", 4), ("yours", 5)]) rfl sc_xor.nd (pi_list (pv 2)) (blkOk_by (by kernel_rfl)) (fun s_ H_ C_ cl_ fp_ => (show PG _ _ (gTup K 2 (gCons (gName 4) (gCons (gName 5) gNil))) from pg_tup rfl (pgs_cons (pg_name (i := 4) sc_xor.nd rfl (Or.inl rfl)) (pgs_cons (pg_name (i := 5) sc_xor.nd rfl (Or.inl rfl)) pgs_nil)))) (fun s_ H_ C_ cl_ fp_ => pts_nil) (fun s_ H_ C_ cl_ fp_ => (show PE _ _ (tOp rNe (tVar 4) (tVar 5)) from pe_cmpR op_ne (pv 4) (pv 5) (nomark _)))) (pa_cons (pv 3) pa_nil))))))), ?_⟩
    have sz : (2000000 : Nat) ≤ sizeLine := by show 2000000 ≤ 16777216; decide
    refine ⟨_, rfl, _, rfl, x, y, xs, gs, xs', gs', rfl, hx, hy, g1, g1', few1, few2, bad, fun le0 H1 t l as s1 ht hl many each => ?_⟩
    replace fin := fin le0
    refine ⟨t, _, rfl, SqT.of ht, rfl, _, _, rfl, _, _, rfl, rfl, ?_⟩
    obtain ⟨a, ea⟩ : ∃ a, a = max xs.length xs'.length := ⟨_, rfl⟩
    obtain ⟨n, en⟩ : ∃ n, n = Nat.lcm gs.length gs'.length := ⟨_, rfl⟩
    have dn : gs.length ∣ n := by rw [en]; exact Nat.dvd_lcm_left ..
    have dn' : gs'.length ∣ n := by rw [en]; exact Nat.dvd_lcm_right ..
    rw [← ea, ← en] at many
    rw [← ea, ← en] at le0 fin
    rw [← en] at L1
    rw [← ea]
    refine ⟨_, rfl, l, rfl, ⟨_, SqL.of hl⟩, fun D hD => ?_⟩
    obtain ⟨jw, ejw⟩ : ∃ jw, jw = joinW (fun mine yours => mine != yours) xs gs xs' gs' (a + n) := ⟨_, rfl⟩
    have ljw : jw.length = a + n := by rw [ejw]; exact joinW_len ..
    refine lc_list (K := K) (a := l) (xs := as.map V.ref) (fun i H' => Same H1 H' ∧ H' D = some (.lst ((jw.take i).map V.bl))) ⟨Same.new hD, upd_same⟩ (fun i H' _ q => SqL.of (q.1 _ _ hl)) (fun i v H' hi q => ?_) (fun H' q => ?_)
    · rw [List.getElem?_map] at hi
      obtain ⟨c0, hc, rfl⟩ := Option.map_eq_some_iff.mp hi
      have lt : i < a + n := by have z := (List.getElem?_eq_some_iff.mp hc).1; omega
      have tup := q.1 _ _ (each i c0 hc)
      have app : ∀ z : Bool, z = (fun mine yours : Bool => mine != yours) (sizB xs gs i) (sizB xs' gs' i) → ∃ acc, H' D = some (.lst acc) ∧ acc.length < sizeLine ∧ (Same H1 (upd H' D (.lst (acc ++ [V.bl z]))) ∧ upd H' D (.lst (acc ++ [V.bl z])) D = some (.lst ((jw.take (i + 1)).map V.bl))) := fun z ez => by
        refine ⟨_, q.2, by rw [List.length_map, List.length_take]; omega, fun b' o e => ?_, ?_⟩
        · have nb : b' ≠ D := fun z => by rw [z, hD] at e; cases e
          rw [upd_ne nb]
          exact q.1 b' o e
        · have g0 := joinW_get (op := fun mine yours => mine != yours) (xs := xs) (gs := gs) (xs' := xs') (gs' := gs') lt
          rw [← ejw, List.getD_eq_getElem?_getD, List.getElem?_eq_getElem (by omega)] at g0
          have ez2 : z = jw[i] := ez.trans g0.symm
          rw [upd_same, List.take_succ, List.getElem?_eq_getElem (by omega), List.map_append, ez2]
          rfl
      refine ⟨_, _, rfl, SqT.of tup, rfl, _, _, rfl, _, _, rfl, rfl, rfl, ?_⟩
      refine iteT (B := Same H1 H' ∧ H' D = some (.lst ((jw.take (i + 1)).map V.bl))) ?_
      revert app
      generalize sizB xs gs i = u
      generalize sizB xs' gs' i = v
      intro app
      exact ⟨_, rfl, _, rfl, rfl, app _ (by cases u <;> cases v <;> decide)⟩
    · rw [List.length_map, many, List.take_of_length_le (by omega)] at q
      refine ⟨_, rfl, D, jw, a, n, rfl, q.2, ljw, L1, by omega, fun H2 z b p s2 fo le at_ => ?_⟩
      rw [ejw] at fo at_
      exact fin H2 z ((s1.trans q.1).trans s2) (Tells.of_join (op := fun mine yours => mine != yours) at_ fo le (by omega) (by omega) (by omega) (by omega) dn dn' (Nat.dvd_refl _) L1 (fun _ => rfl) (fun _ => rfl))
end
end Fz
set_option Elab.async false
set_option linter.all false
set_option maxRecDepth 100000
set_option maxHeartbeats 2000000
namespace Fz
open PySem PySem.Spec PyProof.Rows L2
/-- one step of a reading -/
local macro_rules | `(tactic| walk_at "st") => `(tactic| first
  | refine ⟨_, rfl, ?_⟩
  | refine Or.inl ⟨_, rfl, ?_⟩
  | refine Or.inr ⟨_, rfl, ?_⟩
  | refine ⟨_, _, _, _, rfl, rfl, SqL.of (by first | assumption | exact upd_same), rfl, ?_⟩
  | refine ⟨_, _, _, _, rfl, rfl, (by first | assumption | exact upd_same), rfl, ?_⟩
  | refine ⟨_, _, rfl, .inl ⟨_, SqL.of (by first | assumption | exact upd_same), rfl⟩, ?_⟩
  | refine ⟨_, _, rfl, rfl, (show (0 : Int) < _ by first | decide | omega), ?_⟩
  | refine ⟨_, _, rfl, rfl, (show (0 : Int) < _ ∧ _ < _ by first | exact ⟨by decide, by decide⟩ | omega), ?_⟩
  | refine ⟨_, _, rfl, rfl, (show (_ < _ ∧ _ < _) ∨ (_ < _ ∧ _ < _) by first | exact .inl ⟨by decide, by decide⟩ | omega), ?_⟩
  | refine ⟨_, _, rfl, rfl, (show (0 : Int) ≤ _ ∧ _ ≤ _ ∧ _ < _ by first | exact ⟨by decide, by decide, by decide⟩ | exact ⟨by decide, by decide, by omega⟩), ?_⟩
  | refine ⟨_, _, rfl, rfl, ?_⟩)

section
variable {P : Program} {w : World} {K : PySem.W.Frag} {mg : Str → Option Value} {base : Heap}

abbrev s_part : Stmt := inClass (topS 17) 15
theorem sc_part : FnScope ["self", "other"] ["self", "other"] (defScope s_part) := ⟨rfl, rfl, rfl, by decide +kernel, rfl, by decide +kernel, by decide +kernel⟩
theorem no_size {xs gs : List Bool} (g1 : 1 ≤ gs.length) : (xs.any id || gs.any id) = false ↔ ∀ h, sizB xs gs h = false := by
  constructor
  · intro e h
    rw [Bool.or_eq_false_iff] at e
    have get : ∀ (bs : List Bool) (j : Nat), bs.any id = false → bs.getD j false = false := fun bs j e => by
      rw [List.getD_eq_getElem?_getD]
      cases c : bs[j]? with
      | none => rfl
      | some b =>
        cases b with
        | false => rfl
        | true =>
          have q : bs.any id = true := List.any_eq_true.mpr ⟨true, List.mem_of_getElem? c, rfl⟩
          rw [q] at e
          cases e
    unfold sizB
    split
    · exact get _ _ e.1
    · exact get _ _ e.2
  · intro h
    rw [Bool.or_eq_false_iff]
    have no : ∀ bs : List Bool, (∀ j, j < bs.length → bs.getD j false = false) → bs.any id = false := fun bs f => by
      rw [List.any_eq_false]
      intro b hb
      obtain ⟨j, hj⟩ := List.mem_iff_getElem?.mp hb
      have lt := (List.getElem?_eq_some_iff.mp hj).1
      have q := f j lt
      rw [List.getD_eq_getElem?_getD, hj] at q
      intro z
      have q2 : b = false := q
      rw [q2] at z
      cases z
    refine ⟨no xs fun j lt => ?_, no gs fun j lt => ?_⟩
    · have q := h j
      unfold sizB at q
      rw [if_pos lt] at q
      exact q
    · have q := h (xs.length + j)
      unfold sizB at q
      rw [if_neg (by omega), show xs.length + j - xs.length = j by omega, Nat.mod_eq_of_lt lt] at q
      exact q
def spPartX (CS CM : Addr) : Sp := fun vs H Q E => ∃ (x y : Addr) (xs gs xs' gs' : List Bool), vs = [.ref x, .ref y] ∧ SizAt CS H x xs gs ∧ SizAt CS H y xs' gs' ∧ LeastS xs gs ∧ LeastS xs' gs' ∧
  (1000 < max xs.length xs'.length + Nat.lcm gs.length gs'.length → BadE2 CM "what" "most" (.str "sizes") (.int 1000) E H) ∧
  (max xs.length xs'.length + Nat.lcm gs.length gs'.length ≤ 1000 → ∀ H' b, Same H H' → (b = true ↔ ∀ h, sizB xs gs h = true → sizB xs' gs' h = true) → Q (.bl b) H')
theorem ok_part {CS CM f fSub fBo : Addr} {fd fdSub fdBo : FuncData} (F : Fun K "is_part_of" "Sizes.is_part_of" s_part f fd) (U : Blt mg) (oSub : PySem.W.findIn K (.ref CS) "__sub__" = some (some (.ref fSub))) (firstS : PySem.W.selfFirst K CS = true) (iSub : PySem.W.isFn K (.ref fSub) = true) (G_sub : FnOk P w K mg base (L2.CX P w) 7 fSub fdSub ["self", "other"] (spBinX CS CM (fun mine yours => mine && !yours))) (bSub : L2.Binds K fdSub ["self", "other"] [])
    (oBo : PySem.W.findIn K (.ref CS) "__bool__" = some (some (.ref fBo))) (iBo : PySem.W.isFn K (.ref fBo) = true) (G_boS : FnOk P w K mg base CX0 1 fBo fdBo ["self"] (spBoS CS)) (bBo : L2.Binds K fdBo ["self"] []) : FnOk P w K mg base (L2.CX P w) 9 f fd ["self", "other"] (spPartX CS CM) := by
  refine F.okX sc_part (fun vs H Q E h => ?_) (fun cdv A outer s H vs Q E hr h => ?_)
  · obtain ⟨x, y, xs, gs, xs', gs', rfl, _⟩ := h
    rfl
  · obtain ⟨x, y, xs, gs, xs', gs', rfl, hx, hy, ls, ls', bad, fin⟩ := h
    refine ⟨_, (pss_one (ps_ret (pe_not (pe_callTy (call_boolO oBo iBo G_boS bBo (hr.mono (by decide))) rfl U.z_bool (by decide +kernel) (pa_cons (pe_op (op_binX firstS oSub iSub G_sub bSub (hr.mono (by decide)) (passes_call (takes_of rfl rfl rfl rfl) (fun _ _ _ _ h => h))) (pv 0) (pv 1)) pa_nil))))), ?_⟩
    obtain ⟨dx, t1, u1, cx, a1, a2⟩ := id hx
    obtain ⟨dy, t2, u2, cy, b1, b2⟩ := id hy
    refine ⟨_, rfl, _, rfl, x, dx, _, y, dy, _, rfl, cx, rfl, cy, x, y, xs, gs, xs', gs', rfl, hx, hy, ls, ls', bad, fun le0 H1 z s1 tz => ?_⟩
    replace fin := fin le0
    obtain ⟨zs, ws, ⟨dz, t3, u3, cz, c1, c2⟩, lz, _, _, mz⟩ := tz.ex
    refine ⟨z, dz, _, rfl, cz, z, zs, ws, rfl, ⟨dz, t3, u3, cz, c1, c2⟩, _, rfl, ?_⟩
    refine ⟨_, rfl, fin H1 _ s1 ?_⟩
    have none_ := no_size (xs := zs) (gs := ws) lz.len.1
    constructor
    · intro e h fh
      have z0 : (zs.any id || ws.any id) = false := by
        cases c : (zs.any id || ws.any id) with
        | false => rfl
        | true => rw [c] at e; cases e
      have q := none_.mp z0 h
      rw [mz] at q
      have q' : (sizB xs gs h && !sizB xs' gs' h) = false := q
      rw [fh] at q'
      cases c : sizB xs' gs' h with
      | true => rfl
      | false => rw [c] at q'; cases q'
    · intro all
      rw [none_.mpr fun h => by
        rw [mz]
        show (sizB xs gs h && !sizB xs' gs' h) = false
        cases c : sizB xs gs h with
        | false => rfl
        | true => rw [all h c]; rfl]
      rfl
end
end Fz
set_option Elab.async false
set_option linter.all false
set_option maxRecDepth 100000
set_option maxHeartbeats 2000000
namespace Fz
open PySem PySem.Spec PyProof.Rows L2
/-- one step of a reading -/
local macro_rules | `(tactic| walk_at "st") => `(tactic| first
  | refine ⟨_, rfl, ?_⟩
  | refine Or.inl ⟨_, rfl, ?_⟩
  | refine Or.inr ⟨_, rfl, ?_⟩
  | refine ⟨_, _, _, _, rfl, rfl, SqL.of (by first | assumption | exact upd_same), rfl, ?_⟩
  | refine ⟨_, _, _, _, rfl, rfl, (by first | assumption | exact upd_same), rfl, ?_⟩
  | refine ⟨_, _, rfl, .inl ⟨_, SqL.of (by first | assumption | exact upd_same), rfl⟩, ?_⟩
  | refine ⟨_, _, rfl, rfl, (show (0 : Int) < _ by first | decide | omega), ?_⟩
  | refine ⟨_, _, rfl, rfl, (show (0 : Int) < _ ∧ _ < _ by first | exact ⟨by decide, by decide⟩ | omega), ?_⟩
  | refine ⟨_, _, rfl, rfl, (show (_ < _ ∧ _ < _) ∨ (_ < _ ∧ _ < _) by first | exact .inl ⟨by decide, by decide⟩ | omega), ?_⟩
  | refine ⟨_, _, rfl, rfl, (show (0 : Int) ≤ _ ∧ _ ≤ _ ∧ _ < _ by first | exact ⟨by decide, by decide, by decide⟩ | exact ⟨by decide, by decide, by omega⟩), ?_⟩
  | refine ⟨_, _, rfl, rfl, ?_⟩)

section
variable {P : Program} {w : World} {K : PySem.W.Frag} {mg : Str → Option Value} {base : Heap}

end
section
variable {P : Program} {w : World} {K : PySem.W.Frag} {mg : Str → Option Value} {base : Heap}

abbrev s_num : Stmt := topS 9
theorem sc_num : FnScope ["value", "least", "most"] ["value", "least", "most"] (defScope s_num) := ⟨rfl, rfl, rfl, by decide +kernel, rfl, by decide +kernel, by decide +kernel⟩
theorem ok_num {f : Addr} {fd : FuncData} (F : Fun K "is_number" "is_number" s_num f fd) (T : Blt mg) : FnOk P w K mg base CX0 1 f fd ["value", "least", "most"] spNum := by
  refine F.ok sc_num (fun vs H Q E h => ?_) (fun cdv A outer s H vs Q E hr h => ?_)
  · obtain ⟨x, lo, hi, rfl, _⟩ := h
    rfl
  · obtain ⟨x, lo, hi, rfl, kd, k⟩ := h
    obtain ⟨t, ty, k1, k2⟩ := kd.isInt (K := K)
    refine ⟨_, (pss_one (ps_ret (pe_and (pe_callB call_isi rfl T.z_isinstance (by decide +kernel) (pa_cons (pv 0) (pa_cons (pe_bltn (v := .ty "int") rfl T.z_int (by decide +kernel) rfl) pa_nil))) (pe_and (pe_not (pe_callB call_isi rfl T.z_isinstance (by decide +kernel) (pa_cons (pv 0) (pa_cons (pe_bltn (v := .ty "bool") rfl T.z_bool (by decide +kernel) rfl) pa_nil)))) (pe_one (pe_chain op_le op_le (pv 1) (pv 0) (pv 2))))))), ?_⟩
    refine ⟨_, rfl, _, _, _, _, _, rfl, .ty "int", ty, k1, _, rfl, ?_⟩
    refine ite2 (fun i1 => ?_) (fun i1 => ?_)
    · refine ⟨_, rfl, _, _, _, _, _, rfl, .ty "bool", ty, k2, _, rfl, _, rfl, ?_⟩
      refine ite2 (fun i2 => ?_) (fun i2 => ?_)
      · obtain ⟨i, rfl⟩ : ∃ i, x = V.int i := by
          cases x with
          | int i => exact ⟨i, rfl⟩
          | bl b => exact absurd i2 Bool.false_ne_true
          | _ => exact absurd i1 Bool.false_ne_true
        iterate 2 walk_at "st"
        refine ⟨_, _, rfl, rfl, _, rfl, ?_⟩
        refine ite2 (fun i3 => ?_) (fun i3 => ?_)
        · iterate 2 walk_at "st"
          have e : numV lo hi (.int i) = decide (i ≤ hi) := by
            show (decide (lo ≤ i) && decide (i ≤ hi)) = _
            rw [i3, Bool.true_and]
          show Q (.bl (decide (i ≤ hi))) _
          rw [← e]
          exact k
        · have e : numV lo hi (.int i) = false := by
            show (decide (lo ≤ i) && decide (i ≤ hi)) = _
            rw [Bool.eq_false_iff.mpr i3, Bool.false_and]
          rw [e] at k
          exact k
      · have e : numV lo hi x = false := by
          cases x with
          | int i => exact absurd rfl i2
          | _ => rfl
        rw [e] at k
        exact k
    · have e : numV lo hi x = false := by
        cases x with
        | int i => exact absurd rfl i1
        | _ => rfl
      rw [e] at k
      exact k
abbrev s_mul : Stmt := inClass (topS 17) 4
theorem sc_mul : FnScope ["m", "size"] ["m"] (defScope s_mul) := ⟨rfl, rfl, rfl, by decide +kernel, rfl, by decide +kernel, by decide +kernel⟩
/-- the multiples of m -/
def mulF (m : Nat) : Nat → Bool := fun h => decide ((h + 1) % m = 0)
def mulRow (m : Nat) : List Bool := (List.range m).map fun i => decide (V.int (1 + (i : Nat)) = V.int m)
theorem mulRow_len (m : Nat) : (mulRow m).length = m := by unfold mulRow; rw [List.length_map, List.length_range]
theorem mul_at {m : Nat} (m1 : 1 ≤ m) (h : Nat) : atB ([] ++ mulRow m) 0 m h = mulF m h := by
  have r := Nat.mod_lt h (show m > 0 by omega)
  have d := Nat.div_add_mod h m
  have e0 : atB ([] ++ mulRow m) 0 m h = decide (V.int (1 + ((h % m : Nat) : Int)) = V.int m) := by
    unfold atB
    rw [if_neg (by omega), List.nil_append, Nat.sub_zero, Nat.zero_add, List.getD_eq_getElem?_getD]
    unfold mulRow
    rw [List.getElem?_map, List.getElem?_range r]
    rfl
  rw [e0]
  unfold mulF
  have key : ((h + 1) % m = 0) ↔ 1 + h % m = m := by
    generalize h % m = q at r d ⊢
    generalize h / m = k at d
    subst d
    constructor
    · intro z
      rw [show m * k + q + 1 = m * k + (q + 1) by omega, Nat.mul_add_mod] at z
      refine Classical.byContradiction fun no => ?_
      rw [Nat.mod_eq_of_lt (by omega)] at z
      omega
    · intro z
      rw [show m * k + q + 1 = m * k + m by omega, Nat.mul_add_mod, Nat.mod_self]
  refine decide_eq_decide.mpr ⟨fun z => key.mpr ?_, fun z => ?_⟩
  · have q := V.int.inj z
    omega
  · have q := key.mp z
    congr 1
    omega
def spMul (CS : Addr) : Sp := fun vs H Q _ => ∃ m : Nat, vs = [.int m] ∧ 1 ≤ m ∧ m ≤ 400 ∧ ∀ H' x, Same H H' → Tells CS H' x 0 m (mulF m) → Q (.ref x) H'
theorem ok_mul {CS f fN fSi : Addr} {tMM : Tok} {fd fdN fdSi : FuncData} (F : Fun K "multiples" "Sizes.multiples" s_mul f fd) (U : Blt mg) (N : Fun K "is_number" "is_number" s_num fN fdN) (gN : mg "is_number" = some (.ref fN)) (b_num : L2.Binds K fdN ["value", "least", "most"] []) (gMM : mg "MOST_MULTIPLE" = some (.int 400 tMM)) (gSiz : mg "Sizes" = some (.ref CS))
    (MkS : Mk K CS fSi) (b_si : L2.Binds K fdSi ["self", "ahead", "again"] []) (G_si : FnOk P w K mg base CX0 4 fSi fdSi ["self", "ahead", "again"] (spSizes CS)) : FnOk P w K mg base CX0 6 f fd ["m"] (spMul CS) := by
  have G_num : FnOk P w K mg base CX0 1 fN fdN ["value", "least", "most"] spNum := ok_num N U
  refine F.ok sc_mul (fun vs H Q E h => ?_) (fun cdv A outer s H vs Q E hr h => ?_)
  · obtain ⟨m, rfl, _⟩ := h
    rfl
  · obtain ⟨m, rfl, m1, m4, fin⟩ := h
    refine ⟨_, (pss_cons (ps_if (pt_not (pt_val (pe_call G_num (hr.mono (by decide)) rfl gN N.kp b_num .nil pass0 (by exact (pa_cons (pv 0) (pa_cons pe_int (pa_cons (pe_glob (v := .int 400) rfl gMM ⟨tMM, rfl⟩) pa_nil))))))) (pss_one (ps_never)) pss_nil)
  (pss_one (ps_ret (pe_box (pe_make MkS G_si (hr.mono (by decide)) rfl gSiz b_si .nil pass0 (by exact (pa_cons (pe_tup pa_nil) (pa_cons (pe_lc (own := [("size", 1)]) rfl sc_mul.nd (pi_range2 rfl U.z_range (by exact (pa_cons pe_int (pa_cons (pe_op op_add (pv 0) pe_int) pa_nil)))) (blkOk_by (by kernel_rfl)) (fun s_ H_ C_ cl_ fp_ => (pg_name (i := 1) sc_mul.nd rfl (Or.inl rfl))) (fun s_ H_ C_ cl_ fp_ => pts_nil) (fun s_ H_ C_ cl_ fp_ => (pe_cmpR op_eq (pv 1) (pv 0) (nomark _)))) pa_nil)))))))), ?_⟩
    refine ⟨_, rfl, .int m, 1, 400, rfl, trivial, _, rfl, ?_⟩
    have e : numV 1 400 (.int m) = true := by
      show (decide ((1 : Int) ≤ m) && decide ((m : Int) ≤ 400)) = true
      rw [decide_eq_true (by omega), decide_eq_true (by omega)]
      rfl
    rw [e]
    refine iteF ?_
    have ml := mulRow_len m
    refine sizN_box (as := []) (gs := mulRow m) (fun R k => ?_) (by omega) (by show 0 + _ ≤ 1000; omega) fun H' x b p s f le at_ => ?_
    · refine ⟨by show 0 ≤ sizeLine; omega, fun t1 ht1 => ?_⟩
      have s1 := Same.new (o := .tup []) ht1
      refine ⟨_, rfl, _, _, rfl, rfl, 1, (m : Int) + 1, rfl, ⟨by decide, by decide, by omega, by omega⟩, fun D hD => ?_⟩
      have en : ((m : Int) + 1 - 1).toNat = m := by omega
      rw [en]
      refine lc_range (lo := 1) (n := m) (fun i H' => Same (upd H t1 (.tup [])) H' ∧ H' D = some (.lst (((mulRow m).take i).map V.bl))) ⟨Same.new hD, upd_same⟩ (fun i H' hi q => ?_) (fun H' q => ?_)
      · refine ⟨rfl, ?_⟩
        refine iteT (B := Same (upd H t1 (.tup [])) H' ∧ H' D = some (.lst (((mulRow m).take (i + 1)).map V.bl))) ?_
        refine ⟨_, rfl, _, rfl, rfl, _, q.2, by rw [List.length_map, List.length_take]; show _ < 16777216; omega, fun b o e => ?_, ?_⟩
        · have nb : b ≠ D := fun z => by rw [z, hD] at e; cases e
          rw [upd_ne nb]
          exact q.1 b o e
        · have ge : (mulRow m)[i]? = some (decide (V.int (1 + (i : Nat)) = V.int m)) := by
            unfold mulRow
            rw [List.getElem?_map, List.getElem?_range hi]
            rfl
          rw [upd_same, List.take_succ, ge, List.map_append]
          rfl
      · rw [List.take_of_length_le (by omega)] at q
        exact k H' t1 D true false (s1.trans q.1) (show _ = some (HO.tup _) from q.1 _ _ upd_same) (show _ = some (HO.lst _) from q.2)
    · have e0 : (List.length ([] : List Bool)) = 0 := rfl
      rw [e0, ml] at f at_
      refine fin H' x s ⟨_, _, at_, ⟨_, _, _, _, _, f, rfl, rfl, by omega⟩, by rw [boolsW_len]; exact f.early m1, ?_, fun h => ?_⟩
      · obtain ⟨j, ej⟩ := f.dvd m1
        exact ⟨j, by rw [ring_len, ← ej]⟩
      · rw [siz_form f, mul_at m1]
abbrev s_has : Stmt := topS 29
theorem sc_has : FnScope ["_law_plan_here", "_law_size", "_law_fore", "_law_wheel"] ["_law_plan_here", "_law_size"] (defScope s_has) := ⟨rfl, rfl, rfl, by decide +kernel, rfl, by decide +kernel, by decide +kernel⟩
def PlanAt (H : Hp) (pl : Addr) (as gs : List Bool) : Prop := ∃ f g, H pl = some (.tup [.ref f, .ref g]) ∧ H f = some (.lst (as.map V.bl)) ∧ H g = some (.lst (gs.map V.bl))
theorem PlanAt.same {H H' : Hp} {pl : Addr} {as gs : List Bool} (h : PlanAt H pl as gs) (s : Same H H') : PlanAt H' pl as gs := let ⟨f, g, x, y, z⟩ := h; ⟨f, g, s _ _ x, s _ _ y, s _ _ z⟩
def spHasL : Sp := fun vs H Q _ => ∃ (pl : Addr) (as gs : List Bool) (h : Nat), vs = [.ref pl, .int ((h : Int) + 1)] ∧ PlanAt H pl as gs ∧ 1 ≤ gs.length ∧ as.length + gs.length ≤ 3000 ∧ Q (.bl (sizB as gs h)) H
theorem ok_has {f : Addr} {fd : FuncData} (F : Fun K "_law_has" "_law_has" s_has f fd) (U : Blt mg) : FnOk P w K mg base CX0 1 f fd ["_law_plan_here", "_law_size"] spHasL := by
  refine F.ok sc_has (fun vs H Q E h => ?_) (fun cdv A outer s H vs Q E hr h => ?_)
  · obtain ⟨pl, as, gs, h, rfl, _⟩ := h
    rfl
  · obtain ⟨pl, as, gs, h, rfl, ⟨f, g, hpl, hf, hg⟩, g1, few, fin⟩ := h
    refine ⟨_, (pss_cons (ps_asg (pv 0) (pg_tup rfl (pgs_cons (pg_name (i := 2) sc_has.nd rfl (Or.inl rfl)) (pgs_cons (pg_name (i := 3) sc_has.nd rfl (Or.inl rfl)) pgs_nil))))
  (pss_cons (ps_if (pt_cmpR op_le (pv 1) (pe_callB call_len rfl U.z_len (by decide +kernel) (pa_cons (pv 2) pa_nil)) (nomark _)) (pss_one (ps_ret (pe_ix ix_list (pv 2) (pe_op op_sub (pv 1) pe_int) (fun _ _ => rfl)))) pss_nil)
  (pss_one (ps_ret (pe_ix ix_list (pv 3) (pe_op op_mod (pe_callTy call_int1 rfl U.z_int (by decide +kernel) (pa_cons (pe_op op_sub (pe_op op_sub (pv 1) pe_int) (pe_callB call_len rfl U.z_len (by decide +kernel) (pa_cons (pv 2) pa_nil))) pa_nil)) (pe_callB call_len rfl U.z_len (by decide +kernel) (pa_cons (pv 3) pa_nil))) (fun _ _ => rfl)))))), ?_⟩
    refine ⟨_, rfl, pl, _, rfl, SqT.of hpl, rfl, _, _, rfl, _, _, rfl, rfl, ?_⟩
    refine ⟨_, rfl, _, rfl, _, _, rfl, lenB hf, _, _, rfl, rfl, _, rfl, ?_⟩
    unfold sizB at fin
    refine ite2 (fun c => ?_) (fun c => ?_)
    · have c1 : h < as.length := by have z : (h : Int) + 1 ≤ (as.length : Int) := of_decide_eq_true c; omega
      rw [if_pos c1] at fin
      refine ⟨_, rfl, _, rfl, _, _, rfl, rfl, f, _, _, .bl (as.getD h false), rfl, rfl, SqL.of hf, ?_, fin⟩
      show atI _ ((h : Int) + 1 - 1) = _
      rw [show (h : Int) + 1 - 1 = (h : Int) by omega]
      refine at_nat' ?_
      rw [List.getElem?_map, List.getD_eq_getElem?_getD, List.getElem?_eq_getElem c1]
      rfl
    · have c1 : ¬ h < as.length := fun y => c (decide_eq_true (by omega))
      rw [if_neg c1] at fin
      have m := Nat.mod_lt (h - as.length) (show gs.length > 0 by omega)
      refine ⟨_, rfl, _, rfl, _, _, rfl, rfl, _, rfl, _, _, rfl, lenB hf, _, _, rfl, rfl, .inl ⟨_, rfl, _, rfl, _, _, rfl, lenB hg, _, _, rfl, rfl, by omega, g, _, _, .bl (gs.getD ((h - as.length) % gs.length) false), rfl, rfl, SqL.of hg, ?_, fin⟩⟩
      show atI _ (((h : Int) + 1 - 1 - (as.length : Int)) % (gs.length : Int)) = _
      rw [show ((h : Int) + 1 - 1 - (as.length : Int)) % (gs.length : Int) = (((h - as.length) % gs.length : Nat) : Int) by
        rw [show (h : Int) + 1 - 1 - (as.length : Int) = ((h - as.length : Nat) : Int) by omega]
        rfl]
      refine at_nat' ?_
      rw [List.getElem?_map, List.getD_eq_getElem?_getD, List.getElem?_eq_getElem m]
      rfl
abbrev s_is : Stmt := topS 32
theorem sc_is : FnScope ["_law_real", "_law_bools_here", "_law_size"] ["_law_real", "_law_bools_here"] (defScope s_is) := ⟨rfl, rfl, rfl, by decide +kernel, rfl, by decide +kernel, by decide +kernel⟩
theorem it_int {H : Hp} {i : Int} : IntTy K H (.int i) := ⟨_, .base (.int i), kit_ty (show kitB "int" "int" = some true by decide +kernel), kit_ty (show kitB "int" "bool" = some false by decide +kernel)⟩
def spIs (CS : Addr) : Sp := fun vs H Q _ => ∃ (x l : Addr) (xs gs bs : List Bool), vs = [.ref x, .ref l] ∧ SizAt CS H x xs gs ∧ LeastS xs gs ∧ H l = some (.lst (bs.map V.bl)) ∧ bs.length ≤ 900 ∧ (∀ i b, bs[i]? = some b → sizB xs gs i = b) ∧ ∀ H', Same H H' → Q (.bl true) H'
theorem ok_is {CS f fCo : Addr} {fd fdCo : FuncData} (F : Fun K "_law_is" "_law_is" s_is f fd) (U : Blt mg) (oCo : PySem.W.findIn K (.ref CS) "__contains__" = some (some (.ref fCo))) (iCo : PySem.W.isFn K (.ref fCo) = true) (G_coS : FnOk P w K mg base CX0 2 fCo fdCo ["self", "x"] (spCoS K CS)) (bCo : L2.Binds K fdCo ["self", "x"] []) : FnG P w K mg base CX0 3 f fd ["_law_real", "_law_bools_here"] (spIs CS) := by
  refine funG F sc_is (fun vs H Q E h => ?_) (fun cdv A outer s H vs Q E _ hr hg h => ?_)
  · obtain ⟨x, l, xs, gs, bs, rfl, _⟩ := h
    rfl
  · obtain ⟨x, l, xs, gs, bs, rfl, hx, ls, hl, few, same, fin⟩ := h
    obtain ⟨g1, few2⟩ := ls.len
    refine ⟨_, (pss_one (ps_ret (pe_cmpR op_eq (pe_callB (call_repD hg hr.units) rfl U.z_repr (by decide +kernel) (pa_cons (pe_lc (own := [("_law_size", 2)]) rfl sc_is.nd (pi_range2 rfl U.z_range (by exact (pa_cons pe_int (pa_cons (pe_op op_add (pe_callB call_len rfl U.z_len (by decide +kernel) (pa_cons (pv 1) pa_nil)) pe_int) pa_nil)))) (blkOk_by (by kernel_rfl)) (fun s_ H_ C_ cl_ fp_ => (pg_name (i := 2) sc_is.nd rfl (Or.inl rfl))) (fun s_ H_ C_ cl_ fp_ => pts_nil) (fun s_ H_ C_ cl_ fp_ => (pe_cmpR (show OpR _ (compareOp .In) (rInO CS (spCoS K CS)) from op_inO oCo iCo G_coS bCo (hr.mono (by decide))) (pv 2) (pv 0) (by rfl)))) pa_nil)) (pe_callB (call_repD hg hr.units) rfl U.z_repr (by decide +kernel) (pa_cons (pv 1) pa_nil)) (nomark _)))), ?_⟩
    refine ⟨_, rfl, _, _, rfl, lenB hl, _, _, rfl, rfl, 1, ((bs.length : Nat) : Int) + 1, rfl, ⟨by decide, by decide, by omega, by omega⟩, fun D hD => ?_⟩
    have en : (((bs.length : Nat) : Int) + 1 - 1).toNat = bs.length := by omega
    rw [en]
    refine lc_range (lo := 1) (n := bs.length) (fun i H' => Same H H' ∧ H' D = some (.lst ((bs.take i).map V.bl))) ⟨Same.new hD, upd_same⟩ (fun i H' hi q => ?_) (fun H' q => ?_)
    · have hx2 := hx.same q.1
      obtain ⟨dx, t, u, cx, ct, cu⟩ := id hx2
      refine ⟨rfl, ?_⟩
      refine iteT (B := Same H H' ∧ H' D = some (.lst ((bs.take (i + 1)).map V.bl))) ?_
      have eb := same i bs[i] (List.getElem?_eq_getElem hi)
      refine ⟨_, rfl, _, rfl, x, dx, _, rfl, cx, x, xs, gs, _, rfl, hx2, g1, by omega, it_int, ?_⟩
      have ev : hasB xs gs (.int (1 + (i : Nat))) = bs[i] := by
        rw [← eb]
        show (decide ((1 : Int) ≤ 1 + (i : Nat)) && sizB xs gs (1 + ((i : Nat) : Int) - 1).toNat) = _
        rw [decide_eq_true (by omega), show (1 + ((i : Nat) : Int) - 1).toNat = i by omega]
        rfl
      refine ⟨_, rfl, _, q.2, by rw [List.length_map, List.length_take]; show _ < 16777216; omega, fun b o e => ?_, ?_⟩
      · have nb : b ≠ D := fun z => by rw [z, hD] at e; cases e
        rw [upd_ne nb]
        exact q.1 b o e
      · rw [upd_same, List.take_succ, List.getElem?_eq_getElem hi, List.map_append, ev]
        rfl
    · rw [List.take_length] at q
      refine rep_bools q.2 (by omega) ⟨_, rfl, ?_⟩
      refine rep_bools (q.1 _ _ hl) (by omega) ⟨rfl, ?_⟩
      rw [decide_eq_true rfl]
      exact fin _ q.1
end
end Fz
set_option Elab.async false
set_option linter.all false
set_option maxRecDepth 100000
set_option maxHeartbeats 2000000
namespace Fz
open PySem PySem.Spec PyProof.Rows L2
/-- one step of a reading -/
local macro_rules | `(tactic| walk_at "st") => `(tactic| first
  | refine ⟨_, rfl, ?_⟩
  | refine Or.inl ⟨_, rfl, ?_⟩
  | refine Or.inr ⟨_, rfl, ?_⟩
  | refine ⟨_, _, _, _, rfl, rfl, SqL.of (by first | assumption | exact upd_same), rfl, ?_⟩
  | refine ⟨_, _, _, _, rfl, rfl, (by first | assumption | exact upd_same), rfl, ?_⟩
  | refine ⟨_, _, rfl, .inl ⟨_, SqL.of (by first | assumption | exact upd_same), rfl⟩, ?_⟩
  | refine ⟨_, _, rfl, rfl, (show (0 : Int) < _ by first | decide | omega), ?_⟩
  | refine ⟨_, _, rfl, rfl, (show (0 : Int) < _ ∧ _ < _ by first | exact ⟨by decide, by decide⟩ | omega), ?_⟩
  | refine ⟨_, _, rfl, rfl, (show (_ < _ ∧ _ < _) ∨ (_ < _ ∧ _ < _) by first | exact .inl ⟨by decide, by decide⟩ | omega), ?_⟩
  | refine ⟨_, _, rfl, rfl, (show (0 : Int) ≤ _ ∧ _ ≤ _ ∧ _ < _ by first | exact ⟨by decide, by decide, by decide⟩ | exact ⟨by decide, by decide, by omega⟩), ?_⟩
  | refine ⟨_, _, rfl, rfl, ?_⟩)

section
variable {P : Program} {w : World} {K : PySem.W.Frag} {mg : Str → Option Value} {base : Heap}

/-- two sets of least form, their rows short enough to be joined -/
def Pair (CS : Addr) (H : Hp) (x y : Addr) (xs gs xs' gs' : List Bool) : Prop := SizAt CS H x xs gs ∧ SizAt CS H y xs' gs' ∧ LeastS xs gs ∧ LeastS xs' gs' ∧ max xs.length xs'.length + Nat.lcm gs.length gs'.length ≤ 1000
theorem Pair.same {CS : Addr} {H H' : Hp} {x y : Addr} {xs gs xs' gs' : List Bool} (p : Pair CS H x y xs gs xs' gs') (s : Same H H') : Pair CS H' x y xs gs xs' gs' := ⟨p.1.same s, p.2.1.same s, p.2.2⟩
/-- what a join of the two tells -/
def Joined (CS : Addr) (H : Hp) (z : Addr) (op : Bool → Bool → Bool) (xs gs xs' gs' : List Bool) : Prop := Tells CS H z (max xs.length xs'.length) (Nat.lcm gs.length gs'.length) (fun h => op (sizB xs gs h) (sizB xs' gs' h))
theorem Joined.same {CS : Addr} {H H' : Hp} {z : Addr} {op : Bool → Bool → Bool} {xs gs xs' gs' : List Bool} (j : Joined CS H z op xs gs xs' gs') (s : Same H H') : Joined CS H' z op xs gs xs' gs' := Tells.same j s
theorem bin_r {CS CM : Addr} {H : Hp} {Q : VK} {E : XK} {op : Bool → Bool → Bool} {x y : Addr} {xs gs xs' gs' : List Bool} (p : Pair CS H x y xs gs xs' gs') (fin : ∀ H' z, Same H H' → Joined CS H' z op xs gs xs' gs' → Q (.ref z) H') : rBinX CS (spBinX CS CM op) E (.ref x) (.ref y) H Q := by
  obtain ⟨hx, hy, ls, ls', le⟩ := p
  obtain ⟨dx, t1, u1, cx, _, _⟩ := id hx
  obtain ⟨dy, t2, u2, cy, _, _⟩ := id hy
  exact ⟨x, dx, _, y, dy, _, rfl, cx, rfl, cy, x, y, xs, gs, xs', gs', rfl, hx, hy, ls, ls', fun z => absurd z (by omega), fun _ => fin⟩
theorem bin_box {CS CM : Addr} {σ : L2.St} {H : Hp} {Q : VK} {E : XK} {op : Bool → Bool → Bool} {i j : Nat} {x y : Addr} {xs gs xs' gs' : List Bool} (vi : σ[i]? = some (some (.ref x))) (vj : σ[j]? = some (some (.ref y))) (p : Pair CS H x y xs gs xs' gs') (fin : ∀ H' z, Same H H' → Joined CS H' z op xs gs xs' gs' → Q (.ref z) H') : Box (tOp (rBinX CS (spBinX CS CM op) E) (tVar i) (tVar j)) σ H Q := ⟨⟨_, vi, _, vj, bin_r p fin⟩⟩
/-- two objects of the same rows -/
def TwinS (CS : Addr) (a b : Addr) (H : Hp) : Prop := ∃ xs gs, SizAt CS H a xs gs ∧ SizAt CS H b xs gs
theorem Tells.twin {CS : Addr} {H : Hp} {x y : Addr} {B P B' P' : Nat} {f : Nat → Bool} (a : Tells CS H x B P f) (b : Tells CS H y B' P' f) : TwinS CS x y H := by
  obtain ⟨xs, gs, hx, ls, _, _, m⟩ := a.ex
  obtain ⟨xs', gs', hy, ls', _, _, m'⟩ := b.ex
  obtain ⟨rfl, rfl⟩ := least_eq ls ls' fun h => (m h).trans (m' h).symm
  exact ⟨xs, gs, hx, hy⟩
theorem mon_twin {CS : Addr} : Mon (DIns CS (TwinS CS)) := mon_ins fun a b H H' e ⟨xs, gs, ⟨dx, t, u, x1, x2, x3⟩, ⟨dy, t', u', y1, y2, y3⟩⟩ => ⟨xs, gs, ⟨dx, t, u, e _ _ x1, e _ _ x2, e _ _ x3⟩, ⟨dy, t', u', e _ _ y1, e _ _ y2, e _ _ y3⟩⟩
theorem twin_eq {X : Cx} {CS f : Addr} {fd : FuncData} (F : FnOk X.prog X.w X.K X.mg X.base CX0 1 f fd ["self", "other"] (spEqS X.K CS)) (own : PySem.W.findIn X.K (.ref CS) "__eq__" = some (some (.ref f))) (isF : PySem.W.isFn X.K (.ref f) = true) (binds : L2.Binds X.K fd ["self", "other"] []) : EqG X 1 (DIns CS (TwinS CS)) := by
  refine eqG_ins (CX := CX0) (E := E0) (F.imp fun vs H Q E q => ?_) own isF binds pass0
  obtain ⟨a, b, rfl, ⟨xs, gs, ha, hb⟩, k⟩ := q
  refine ⟨a, xs, gs, .ref b, rfl, ha, .inl ⟨b, xs, gs, rfl, hb, ?_⟩⟩
  rw [decide_eq_true (And.intro rfl rfl)]
  exact k H Ext.rfl'
abbrev s_inp : Stmt := topS 33
theorem sc_inp : FnScope ["_law_one", "_law_other", "_law_found", "_law_held"] ["_law_one", "_law_other"] (defScope s_inp) := ⟨rfl, rfl, rfl, by decide +kernel, rfl, by decide +kernel, by decide +kernel⟩
def spInp (CS : Addr) : Sp := fun vs H Q _ => ∃ (x y : Addr) (xs gs xs' gs' : List Bool), vs = [.ref x, .ref y] ∧ Pair CS H x y xs gs xs' gs' ∧ ∀ (H' : Hp) (l z1 z2 z3 z4 : Addr), Same H H' → H' l = some (.lst [.ref z1, .ref z2, .ref z3, .ref z4]) →
  Joined CS H' z1 (fun mine yours => mine && yours) xs gs xs' gs' → Joined CS H' z2 (fun mine yours => mine || yours) xs gs xs' gs' → Joined CS H' z3 (fun mine yours => mine && !yours) xs gs xs' gs' → Joined CS H' z4 (fun mine yours => mine != yours) xs gs xs' gs' → Q (.ref l) H'
theorem Joined.put {CS : Addr} {H : Hp} {z l : Addr} {o : HO} {ys : List V} {op : Bool → Bool → Bool} {xs gs xs' gs' : List Bool} (j : Joined CS H z op xs gs xs' gs') (hl : H l = some (.lst ys)) : Joined CS (upd H l o) z op xs gs xs' gs' := by
  obtain ⟨as, bs, a, r⟩ := Tells.ex j
  exact ⟨as, bs, a.put hl, r⟩
theorem Pair.put {CS : Addr} {H : Hp} {x y l : Addr} {o : HO} {ys : List V} {xs gs xs' gs' : List Bool} (p : Pair CS H x y xs gs xs' gs') (hl : H l = some (.lst ys)) : Pair CS (upd H l o) x y xs gs xs' gs' := ⟨p.1.put hl, p.2.1.put hl, p.2.2⟩
/-- what stood before the list at l was made stays, whatever becomes of the list -/
def Keeps (H : Hp) (l : Addr) (H' : Hp) : Prop := ∀ b o, b ≠ l → H b = some o → H' b = some o
theorem Keeps.same {H H1 H2 : Hp} {l : Addr} (k : Keeps H l H1) (s : Same H1 H2) : Keeps H l H2 := fun b o n e => s _ _ (k b o n e)
theorem Keeps.put {H H1 : Hp} {l : Addr} {o : HO} (k : Keeps H l H1) : Keeps H l (upd H1 l o) := fun b u n e => by rw [upd_ne n]; exact k b u n e
theorem ok_inp {CS CM f : Addr} {fd : FuncData} {fAnd fOr fSub fXor : Addr} {fdAnd fdOr fdSub fdXor : FuncData} (F : Fun K "_law_in_place" "_law_in_place" s_inp f fd) (U : Blt mg) (firstS : PySem.W.selfFirst K CS = true)
    (oAnd : PySem.W.findIn K (.ref CS) "__and__" = some (some (.ref fAnd))) (iAnd : PySem.W.isFn K (.ref fAnd) = true) (G_And : FnOk P w K mg base (L2.CX P w) 7 fAnd fdAnd ["self", "other"] (spBinX CS CM (fun mine yours => mine && yours))) (bAnd : L2.Binds K fdAnd ["self", "other"] [])
    (oOr : PySem.W.findIn K (.ref CS) "__or__" = some (some (.ref fOr))) (iOr : PySem.W.isFn K (.ref fOr) = true) (G_Or : FnOk P w K mg base (L2.CX P w) 7 fOr fdOr ["self", "other"] (spBinX CS CM (fun mine yours => mine || yours))) (bOr : L2.Binds K fdOr ["self", "other"] [])
    (oSub : PySem.W.findIn K (.ref CS) "__sub__" = some (some (.ref fSub))) (iSub : PySem.W.isFn K (.ref fSub) = true) (G_Sub : FnOk P w K mg base (L2.CX P w) 7 fSub fdSub ["self", "other"] (spBinX CS CM (fun mine yours => mine && !yours))) (bSub : L2.Binds K fdSub ["self", "other"] [])
    (oXor : PySem.W.findIn K (.ref CS) "__xor__" = some (some (.ref fXor))) (iXor : PySem.W.isFn K (.ref fXor) = true) (G_Xor : FnOk P w K mg base (L2.CX P w) 7 fXor fdXor ["self", "other"] (spBinX CS CM (fun mine yours => mine != yours))) (bXor : L2.Binds K fdXor ["self", "other"] [])
    (noAnd : noInB K CS (dunderI (Operator.info .BitAnd).2) = true)
    (noOr : noInB K CS (dunderI (Operator.info .BitOr).2) = true)
    (noSub : noInB K CS (dunderI (Operator.info .Sub).2) = true)
    (noXor : noInB K CS (dunderI (Operator.info .BitXor).2) = true) : FnOk P w K mg base CX0 8 f fd ["_law_one", "_law_other"] (spInp CS) := by
  refine F.ok sc_inp (fun vs H Q E h => ?_) (fun cdv A outer s H vs Q E hr h => ?_)
  · obtain ⟨x, y, xs, gs, xs', gs', rfl, _⟩ := h
    rfl
  · obtain ⟨x, y, xs, gs, xs', gs', rfl, p0, fin⟩ := h
    refine ⟨_, (pss_cons (ps_set (i := 2) sc_inp.nd rfl (Or.inl rfl) (pe_lst (pa_cons (pv 0) (pa_cons (pv 0) (pa_cons (pv 0) (pa_cons (pv 0) pa_nil))))))
  (pss_cons (ps_set (i := 3) sc_inp.nd rfl (Or.inl rfl) (pv 0))
  (pss_cons (ps_aug (i := 3) sc_inp.nd rfl (Or.inl rfl) (pv 1) (iop_binX firstS noAnd oAnd iAnd G_And bAnd (hr.mono (by decide)) (passes_call LamX.takes0 (fun _ _ _ _ h => h))))
  (pss_cons (ps_asg (pv 3) (pg_sub (pv 2) pe_int set_list))
  (pss_cons (ps_set (i := 3) sc_inp.nd rfl (Or.inl rfl) (pv 0))
  (pss_cons (ps_aug (i := 3) sc_inp.nd rfl (Or.inl rfl) (pv 1) (iop_binX firstS noOr oOr iOr G_Or bOr (hr.mono (by decide)) (passes_call LamX.takes0 (fun _ _ _ _ h => h))))
  (pss_cons (ps_asg (pv 3) (pg_sub (pv 2) pe_int set_list))
  (pss_cons (ps_set (i := 3) sc_inp.nd rfl (Or.inl rfl) (pv 0))
  (pss_cons (ps_aug (i := 3) sc_inp.nd rfl (Or.inl rfl) (pv 1) (iop_binX firstS noSub oSub iSub G_Sub bSub (hr.mono (by decide)) (passes_call LamX.takes0 (fun _ _ _ _ h => h))))
  (pss_cons (ps_asg (pv 3) (pg_sub (pv 2) pe_int set_list))
  (pss_cons (ps_set (i := 3) sc_inp.nd rfl (Or.inl rfl) (pv 0))
  (pss_cons (ps_aug (i := 3) sc_inp.nd rfl (Or.inl rfl) (pv 1) (iop_binX firstS noXor oXor iXor G_Xor bXor (hr.mono (by decide)) (passes_call LamX.takes0 (fun _ _ _ _ h => h))))
  (pss_cons (ps_asg (pv 3) (pg_sub (pv 2) pe_int set_list))
  (pss_one (ps_ret (pv 2)))))))))))))))), ?_⟩
    have sz : (2000000 : Nat) ≤ sizeLine := by show 2000000 ≤ 16777216; decide
    refine ⟨_, rfl, _, rfl, _, rfl, _, rfl, by show 4 ≤ sizeLine; omega, fun l hl => ?_⟩
    have u1 := Same.new (o := .lst [V.ref x, .ref x, .ref x, .ref x]) hl
    have p1 := p0.same u1
    have k1 : Keeps H l (upd H l (.lst [V.ref x, .ref x, .ref x, .ref x])) := fun b o n e => u1 _ _ e
    have l1 : upd H l (.lst [V.ref x, .ref x, .ref x, .ref x]) l = some (.lst [V.ref x, .ref x, .ref x, .ref x]) := upd_same
    generalize upd H l (.lst [V.ref x, .ref x, .ref x, .ref x]) = H1 at p1 k1 l1 ⊢
    refine ⟨_, rfl, _, rfl, _, rfl, bin_r p1 fun H2 z1 n1 j1 => ?_⟩
    have l2 := n1 _ _ l1
    refine ⟨_, rfl, _, rfl, l, _, _, 0, rfl, rfl, l2, rfl, ?_⟩
    replace p1 := (p1.same n1).put (o := .lst [V.ref z1, .ref x, .ref x, .ref x]) l2
    replace j1 := j1.put (o := .lst [V.ref z1, .ref x, .ref x, .ref x]) l2
    replace k1 := (k1.same n1).put (o := .lst [V.ref z1, .ref x, .ref x, .ref x])
    replace l1 : upd H2 l (.lst [V.ref z1, .ref x, .ref x, .ref x]) l = some (.lst [V.ref z1, .ref x, .ref x, .ref x]) := upd_same
    show tSeq _ _ _ _ (upd H2 l (.lst [V.ref z1, .ref x, .ref x, .ref x]))
    generalize upd H2 l (.lst [V.ref z1, .ref x, .ref x, .ref x]) = H3 at p1 k1 l1 j1 ⊢
    refine ⟨_, rfl, _, rfl, _, rfl, bin_r p1 fun H4 z2 n2 j2 => ?_⟩
    replace l2 := n2 _ _ l1
    refine ⟨_, rfl, _, rfl, l, _, _, 1, rfl, rfl, l2, rfl, ?_⟩
    replace p1 := (p1.same n2).put (o := .lst [V.ref z1, .ref z2, .ref x, .ref x]) l2
    replace j1 := (j1.same n2).put (o := .lst [V.ref z1, .ref z2, .ref x, .ref x]) l2
    replace j2 := j2.put (o := .lst [V.ref z1, .ref z2, .ref x, .ref x]) l2
    replace k1 := (k1.same n2).put (o := .lst [V.ref z1, .ref z2, .ref x, .ref x])
    replace l1 : upd H4 l (.lst [V.ref z1, .ref z2, .ref x, .ref x]) l = some (.lst [V.ref z1, .ref z2, .ref x, .ref x]) := upd_same
    show tSeq _ _ _ _ (upd H4 l (.lst [V.ref z1, .ref z2, .ref x, .ref x]))
    generalize upd H4 l (.lst [V.ref z1, .ref z2, .ref x, .ref x]) = H5 at p1 k1 l1 j1 j2 ⊢
    refine ⟨_, rfl, _, rfl, _, rfl, bin_r p1 fun H6 z3 n3 j3 => ?_⟩
    replace l2 := n3 _ _ l1
    refine ⟨_, rfl, _, rfl, l, _, _, 2, rfl, rfl, l2, rfl, ?_⟩
    replace p1 := (p1.same n3).put (o := .lst [V.ref z1, .ref z2, .ref z3, .ref x]) l2
    replace j1 := (j1.same n3).put (o := .lst [V.ref z1, .ref z2, .ref z3, .ref x]) l2
    replace j2 := (j2.same n3).put (o := .lst [V.ref z1, .ref z2, .ref z3, .ref x]) l2
    replace j3 := j3.put (o := .lst [V.ref z1, .ref z2, .ref z3, .ref x]) l2
    replace k1 := (k1.same n3).put (o := .lst [V.ref z1, .ref z2, .ref z3, .ref x])
    replace l1 : upd H6 l (.lst [V.ref z1, .ref z2, .ref z3, .ref x]) l = some (.lst [V.ref z1, .ref z2, .ref z3, .ref x]) := upd_same
    show tSeq _ _ _ _ (upd H6 l (.lst [V.ref z1, .ref z2, .ref z3, .ref x]))
    generalize upd H6 l (.lst [V.ref z1, .ref z2, .ref z3, .ref x]) = H7 at p1 k1 l1 j1 j2 j3 ⊢
    refine ⟨_, rfl, _, rfl, _, rfl, bin_r p1 fun H8 z4 n4 j4 => ?_⟩
    replace l2 := n4 _ _ l1
    refine ⟨_, rfl, _, rfl, l, _, _, 3, rfl, rfl, l2, rfl, ?_⟩
    replace j1 := (j1.same n4).put (o := .lst [V.ref z1, .ref z2, .ref z3, .ref z4]) l2
    replace j2 := (j2.same n4).put (o := .lst [V.ref z1, .ref z2, .ref z3, .ref z4]) l2
    replace j3 := (j3.same n4).put (o := .lst [V.ref z1, .ref z2, .ref z3, .ref z4]) l2
    replace j4 := j4.put (o := .lst [V.ref z1, .ref z2, .ref z3, .ref z4]) l2
    replace k1 := (k1.same n4).put (o := .lst [V.ref z1, .ref z2, .ref z3, .ref z4])
    refine ⟨_, rfl, fin _ l z1 z2 z3 z4 (fun b o e => k1 b o (fun z => by rw [z, hl] at e; cases e) e) upd_same j1 j2 j3 j4⟩
end
end Fz
set_option Elab.async false
set_option linter.all false
set_option maxRecDepth 100000
set_option maxHeartbeats 2000000
namespace Fz
open PySem PySem.Spec PyProof.Rows L2
/-- one step of a reading -/
local macro_rules | `(tactic| walk_at "st") => `(tactic| first
  | refine ⟨_, rfl, ?_⟩
  | refine Or.inl ⟨_, rfl, ?_⟩
  | refine Or.inr ⟨_, rfl, ?_⟩
  | refine ⟨_, _, _, _, rfl, rfl, SqL.of (by first | assumption | exact upd_same), rfl, ?_⟩
  | refine ⟨_, _, _, _, rfl, rfl, (by first | assumption | exact upd_same), rfl, ?_⟩
  | refine ⟨_, _, rfl, .inl ⟨_, SqL.of (by first | assumption | exact upd_same), rfl⟩, ?_⟩
  | refine ⟨_, _, rfl, rfl, (show (0 : Int) < _ by first | decide | omega), ?_⟩
  | refine ⟨_, _, rfl, rfl, (show (0 : Int) < _ ∧ _ < _ by first | exact ⟨by decide, by decide⟩ | omega), ?_⟩
  | refine ⟨_, _, rfl, rfl, (show (_ < _ ∧ _ < _) ∨ (_ < _ ∧ _ < _) by first | exact .inl ⟨by decide, by decide⟩ | omega), ?_⟩
  | refine ⟨_, _, rfl, rfl, (show (0 : Int) ≤ _ ∧ _ ≤ _ ∧ _ < _ by first | exact ⟨by decide, by decide, by decide⟩ | exact ⟨by decide, by decide, by omega⟩), ?_⟩
  | refine ⟨_, _, rfl, rfl, ?_⟩)

section
variable {P : Program} {w : World} {K : PySem.W.Frag} {mg : Str → Option Value} {base : Heap}

abbrev s_right : Stmt := topS 34
theorem sc_right : FnScope ["_law_plan_here", "_law_rival", "_law_reach", "_law_left", "_law_right_here", "_law_due", "_law_one", "_law_other", "_law_real", "_law_bools_here", "_law_size", "_law_a", "_law_b"] ["_law_plan_here", "_law_rival"] (defScope s_right) := ⟨rfl, rfl, rfl, by decide +kernel, rfl, by decide +kernel, by decide +kernel⟩
theorem bool_len (b : Bool) : (PyData.shown (.bool b)).length ≤ 5 ∧ ∀ c ∈ TL.tl (PyData.shown (.bool b)), c < 128 := by
  cases b
  · exact ⟨by show (Str.ofString "False").length ≤ 5; decide +kernel, by show ∀ c ∈ TL.tl (Str.ofString "False"), c < 128; decide +kernel⟩
  · exact ⟨by show (Str.ofString "True").length ≤ 5; decide +kernel, by show ∀ c ∈ TL.tl (Str.ofString "True"), c < 128; decide +kernel⟩
theorem rep_b {K : PySem.W.Frag} {H : Hp} {Q : VK} {b : Bool} (fin : Q (.str (PyData.shown (.bool b))) H) : rRepA K [.bl b] H Q := ⟨.bl b, .bool b, rfl, .inl ⟨.bl b, rfl⟩, rfl, by show 0 ≤ 60; decide, Nat.le_trans (bool_len b).1 (by decide), fin⟩
/-- a row of joins -/
def zipR (op : Bool → Bool → Bool) (f g : Nat → Bool) (n : Nat) : List Bool := (List.range n).map fun i => op (f i) (g i)
def rowR (f : Nat → Bool) (n : Nat) : List Bool := (List.range n).map f
theorem rowR_len (f : Nat → Bool) (n : Nat) : (rowR f n).length = n := by unfold rowR; rw [List.length_map, List.length_range]
theorem rowR_at {f : Nat → Bool} {n i : Nat} (h : i < n) : (rowR f n)[i]? = some (f i) := by unfold rowR; rw [List.getElem?_map, List.getElem?_range h]; rfl
theorem zipR_row (op : Bool → Bool → Bool) (f g : Nat → Bool) (n : Nat) : zipR op f g n = rowR (fun i => op (f i) (g i)) n := rfl
theorem rowV_at {f : Nat → Bool} {n i : Nat} {e : V} (h : i < n) (q : ((rowR f n).map V.bl)[i]? = some e) : e = .bl (f i) := by
  rw [List.getElem?_map, rowR_at h] at q
  cases q
  rfl
/-- one more of a row is put behind the list that is made -/
theorem row_step {H1 H' : Hp} {D : Addr} {row : List Bool} {i : Nat} {b : Bool} (s : Same H1 H') (hD0 : H1 D = none) (hd : H' D = some (.lst ((row.take i).map V.bl))) (get : row[i]? = some b) (few : row.length ≤ 5000) :
    ∃ acc, H' D = some (.lst acc) ∧ acc.length < sizeLine ∧ (Same H1 (upd H' D (.lst (acc ++ [V.bl b]))) ∧ upd H' D (.lst (acc ++ [V.bl b])) D = some (.lst ((row.take (i + 1)).map V.bl))) := by
  refine ⟨_, hd, by rw [List.length_map, List.length_take]; show _ < 16777216; omega, fun b' o e => ?_, ?_⟩
  · have nb : b' ≠ D := fun z => by rw [z, hD0] at e; cases e
    rw [upd_ne nb]
    exact s b' o e
  · rw [upd_same, List.take_succ, get, List.map_append]
    rfl
theorem made_tells {CS : Addr} {H : Hp} {x : Addr} {as gs : List Bool} {b p : Nat} (g1 : 1 ≤ gs.length) (f : Form (atW (bz (as ++ gs)) as.length gs.length) b p) (le : b + p ≤ as.length + gs.length) (few : as.length + gs.length ≤ 1000)
    (at_ : SizAt CS H x (boolsW (as ++ gs) as.length gs.length b) (ringW (as ++ gs) as.length gs.length b p)) : Tells CS H x as.length gs.length (sizB as gs) := by
  refine ⟨_, _, at_, ⟨_, _, _, _, _, f, rfl, rfl, by omega⟩, by rw [boolsW_len]; exact f.early g1, ?_, fun h => by rw [siz_form f, sizB_app g1]⟩
  obtain ⟨j, ej⟩ := f.dvd g1
  exact ⟨j, by rw [ring_len, ← ej]⟩
theorem inV_bools : ∀ bs : List Bool, inV (.bl true) (bs.map V.bl) = bs.any id
  | [] => rfl
  | b :: r => by
    have q := inV_bools r
    unfold inV at q ⊢
    rw [List.map_cons, List.any_cons, q, List.any_cons]
    cases b <;> rfl
theorem flat_bools (bs : List Bool) : (bs.map V.bl).all flatV = true := by
  rw [List.all_map, List.all_eq_true]
  intro b _
  rfl
/-- two sets that come again are compared by their first sizes -/
theorem far_sub {as gs as' gs' : List Bool} {n : Nat} (g1 : 1 ≤ gs.length) (g1' : 1 ≤ gs'.length) (hn : max as.length as'.length + gs.length * gs'.length ≤ n) (h : ∀ i, i < n → sizB as gs i = true → sizB as' gs' i = true) : ∀ i, sizB as gs i = true → sizB as' gs' i = true := by
  intro i hi
  obtain ⟨a, ea⟩ : ∃ a, a = max as.length as'.length := ⟨_, rfl⟩
  obtain ⟨m, em⟩ : ∃ m, m = gs.length * gs'.length := ⟨_, rfl⟩
  have m1 : 0 < m := by rw [em]; exact Nat.mul_pos g1 g1'
  have d : gs.length ∣ m := by rw [em]; exact Nat.dvd_mul_right ..
  have d' : gs'.length ∣ m := by rw [em]; exact Nat.dvd_mul_left ..
  by_cases c : i < a
  · exact h i (by omega) hi
  · have lt := Nat.mod_lt (i - a) m1
    have e1 := sizB_far (xs := as) (gs := gs) (a := a) (n := m) (h := i) (by omega) d (by omega)
    have e2 := sizB_far (xs := as') (gs := gs') (a := a) (n := m) (h := i) (by omega) d' (by omega)
    rw [← e2]
    refine h _ (by omega) ?_
    rw [e1]
    exact hi
def spRight (CS : Addr) : Sp := fun vs H Q _ => ∃ (pl rv : Addr) (as gs as' gs' : List Bool), vs = [.ref pl, .ref rv] ∧ PlanAt H pl as gs ∧ PlanAt H rv as' gs' ∧ 1 ≤ gs.length ∧ 1 ≤ gs'.length ∧ as.length ≤ 10 ∧ gs.length ≤ 15 ∧ as'.length ≤ 10 ∧ gs'.length ≤ 15 ∧ ∀ H', Same H H' → Q (.bl true) H'
theorem PlanAt.mono {H H' : Hp} {pl : Addr} {as gs : List Bool} (h : PlanAt H pl as gs) (s : Same H H') : PlanAt H' pl as gs := let ⟨f, g, x, y, z⟩ := h; ⟨f, g, s _ _ x, s _ _ y, s _ _ z⟩
theorem ok_right {CS CM f fSi fHa fIs fIp fPt fInv fEq fCo : Addr} {fd fdSi fdHa fdIs fdIp fdPt fdInv fdEq fdCo : FuncData} {fAnd fOr fSub fXor : Addr} {fdAnd fdOr fdSub fdXor : FuncData} (F : Fun K "_law_right" "_law_right" s_right f fd) (U : Blt mg) (gZip : mg "zip" = none) (SC : SizC K CS) (ty : TyC K CS) (self_ : PySem.W.kitOne K (.ref CS) (.ref CS) = some true) (gSiz : mg "Sizes" = some (.ref CS))
    (firstS : PySem.W.selfFirst K CS = true)
    (oAnd : PySem.W.findIn K (.ref CS) "__and__" = some (some (.ref fAnd))) (iAnd : PySem.W.isFn K (.ref fAnd) = true) (G_And : FnOk P w K mg base (L2.CX P w) 7 fAnd fdAnd ["self", "other"] (spBinX CS CM (fun mine yours => mine && yours))) (bAnd : L2.Binds K fdAnd ["self", "other"] [])
    (oOr : PySem.W.findIn K (.ref CS) "__or__" = some (some (.ref fOr))) (iOr : PySem.W.isFn K (.ref fOr) = true) (G_Or : FnOk P w K mg base (L2.CX P w) 7 fOr fdOr ["self", "other"] (spBinX CS CM (fun mine yours => mine || yours))) (bOr : L2.Binds K fdOr ["self", "other"] [])
    (oSub : PySem.W.findIn K (.ref CS) "__sub__" = some (some (.ref fSub))) (iSub : PySem.W.isFn K (.ref fSub) = true) (G_Sub : FnOk P w K mg base (L2.CX P w) 7 fSub fdSub ["self", "other"] (spBinX CS CM (fun mine yours => mine && !yours))) (bSub : L2.Binds K fdSub ["self", "other"] [])
    (oXor : PySem.W.findIn K (.ref CS) "__xor__" = some (some (.ref fXor))) (iXor : PySem.W.isFn K (.ref fXor) = true) (G_Xor : FnOk P w K mg base (L2.CX P w) 7 fXor fdXor ["self", "other"] (spBinX CS CM (fun mine yours => mine != yours))) (bXor : L2.Binds K fdXor ["self", "other"] [])
    (noAnd : noInB K CS (dunderI (Operator.info .BitAnd).2) = true)
    (noOr : noInB K CS (dunderI (Operator.info .BitOr).2) = true)
    (noSub : noInB K CS (dunderI (Operator.info .Sub).2) = true)
    (noXor : noInB K CS (dunderI (Operator.info .BitXor).2) = true)
    (MkS : Mk K CS fSi) (b_si : L2.Binds K fdSi ["self", "ahead", "again"] []) (G_si : FnOk P w K mg base CX0 4 fSi fdSi ["self", "ahead", "again"] (spSizes CS))
    (Ha : Fun K "_law_has" "_law_has" s_has fHa fdHa) (gHa : mg "_law_has" = some (.ref fHa)) (b_has : L2.Binds K fdHa ["_law_plan_here", "_law_size"] [])
    (Is : Fun K "_law_is" "_law_is" s_is fIs fdIs) (gIs : mg "_law_is" = some (.ref fIs)) (b_is : L2.Binds K fdIs ["_law_real", "_law_bools_here"] [])
    (Ip : Fun K "_law_in_place" "_law_in_place" s_inp fIp fdIp) (gIp : mg "_law_in_place" = some (.ref fIp)) (b_inp : L2.Binds K fdIp ["_law_one", "_law_other"] [])
    (Mpt : Meth K CS "is_part_of" fPt) (G_part : FnOk P w K mg base (L2.CX P w) 9 fPt fdPt ["self", "other"] (spPartX CS CM)) (b_part : L2.Binds K fdPt ["self", "other"] [])
    (oInv : PySem.W.findIn K (.ref CS) "__invert__" = some (some (.ref fInv))) (iInv : PySem.W.isFn K (.ref fInv) = true) (G_inv : FnOk P w K mg base CX0 7 fInv fdInv ["self"] (spInv CS)) (bInv : L2.Binds K fdInv ["self"] [])
    (oEq : PySem.W.findIn K (.ref CS) "__eq__" = some (some (.ref fEq))) (iEq : PySem.W.isFn K (.ref fEq) = true) (G_eqS : FnOk P w K mg base CX0 1 fEq fdEq ["self", "other"] (spEqS K CS)) (bEq : L2.Binds K fdEq ["self", "other"] [])
    (oCo : PySem.W.findIn K (.ref CS) "__contains__" = some (some (.ref fCo))) (iCo : PySem.W.isFn K (.ref fCo) = true) (G_coS : FnOk P w K mg base CX0 2 fCo fdCo ["self", "x"] (spCoS K CS)) (bCo : L2.Binds K fdCo ["self", "x"] []) : FnG P w K mg base CX0 12 f fd ["_law_plan_here", "_law_rival"] (spRight CS) := by
  have G_has : FnOk P w K mg base CX0 1 fHa fdHa ["_law_plan_here", "_law_size"] spHasL := ok_has Ha U
  have G_is : FnG P w K mg base CX0 3 fIs fdIs ["_law_real", "_law_bools_here"] (spIs CS) := ok_is Is U oCo iCo G_coS bCo
  have G_inp : FnOk P w K mg base CX0 8 fIp fdIp ["_law_one", "_law_other"] (spInp CS) := ok_inp Ip U firstS oAnd iAnd G_And bAnd oOr iOr G_Or bOr oSub iSub G_Sub bSub oXor iXor G_Xor bXor noAnd noOr noSub noXor
  refine funG F sc_right (fun vs H Q E h => ?_) (fun cdv A outer s H vs Q E _ hr hg h => ?_)
  · obtain ⟨pl, rv, as, gs, as', gs', rfl, _⟩ := h
    rfl
  · obtain ⟨pl, rv, as, gs, as', gs', rfl, hp, hv, g1, g1', la, lg, la', lg', fin⟩ := h
    refine ⟨_, (pss_cons (ps_par (i := 6) (j := 7) (by rfl) sc_right.nd rfl rfl (by decide) rfl rfl (pa_cons (pe_box (pe_make MkS G_si (hr.mono (by decide)) rfl gSiz b_si .nil pass0 (by exact (pa_cons (pe_ix ix_tup (pv 0) pe_int (fun _ _ => rfl)) (pa_cons (pe_ix ix_tup (pv 0) pe_int (fun _ _ => rfl)) pa_nil))))) (pa_cons (pe_box (pe_make MkS G_si (hr.mono (by decide)) rfl gSiz b_si .nil pass0 (by exact (pa_cons (pe_ix ix_tup (pv 1) pe_int (fun _ _ => rfl)) (pa_cons (pe_ix ix_tup (pv 1) pe_int (fun _ _ => rfl)) pa_nil))))) pa_nil)) (by rfl))
  (C8.pss_cut (ps_set (i := 2) sc_right.nd rfl (Or.inl rfl) (pe_op op_add (pe_op op_add (pe_callB (call_max2 rfl) rfl U.z_max (by decide +kernel) (pa_cons (pe_callB call_len rfl U.z_len (by decide +kernel) (pa_cons (pe_ix ix_tup (pv 0) pe_int (fun _ _ => rfl)) pa_nil)) (pa_cons (pe_callB call_len rfl U.z_len (by decide +kernel) (pa_cons (pe_ix ix_tup (pv 1) pe_int (fun _ _ => rfl)) pa_nil)) pa_nil))) (pe_op op_mul (pe_callB call_len rfl U.z_len (by decide +kernel) (pa_cons (pe_ix ix_tup (pv 0) pe_int (fun _ _ => rfl)) pa_nil)) (pe_callB call_len rfl U.z_len (by decide +kernel) (pa_cons (pe_ix ix_tup (pv 1) pe_int (fun _ _ => rfl)) pa_nil)))) pe_int))
  (C8.pss_cut (ps_setLc (i := 3) (own := [("_law_size", 10)]) rfl sc_right.nd rfl rfl (sw_true rfl rfl rfl (by decide +kernel)) (pi_range2 rfl U.z_range (by exact (pa_cons pe_int (pa_cons (pv 2) pa_nil)))) (blkOk_by (by kernel_rfl)) (fun s_ H_ C_ cl_ fp_ => (pg_name (i := 10) sc_right.nd rfl (Or.inl rfl))) (fun s_ H_ C_ cl_ fp_ => pts_nil) (fun s_ H_ C_ cl_ fp_ => (pe_call G_has (hr.mono (by decide)) rfl gHa Ha.kp b_has .nil pass0 (by exact (pa_cons (pv 0) (pa_cons (pv 10) pa_nil))))))
  (C8.pss_cut (ps_setLc (i := 4) (own := [("_law_size", 10)]) rfl sc_right.nd rfl rfl (sw_true rfl rfl rfl (by decide +kernel)) (pi_range2 rfl U.z_range (by exact (pa_cons pe_int (pa_cons (pv 2) pa_nil)))) (blkOk_by (by kernel_rfl)) (fun s_ H_ C_ cl_ fp_ => (pg_name (i := 10) sc_right.nd rfl (Or.inl rfl))) (fun s_ H_ C_ cl_ fp_ => pts_nil) (fun s_ H_ C_ cl_ fp_ => (pe_call G_has (hr.mono (by decide)) rfl gHa Ha.kp b_has .nil pass0 (by exact (pa_cons (pv 1) (pa_cons (pv 10) pa_nil))))))
  (pss_cons (ps_set (i := 5) sc_right.nd rfl (Or.inl rfl) (pe_lst (pa_cons (pe_lc (own := [("_law_a", 11), ("_law_b", 12)]) rfl sc_right.nd (pi_zip rfl gZip (pa_cons (pv 3) (pa_cons (pv 4) pa_nil))) (blkOk_by (by kernel_rfl)) (fun s_ H_ C_ cl_ fp_ => (show PG _ _ (gTup K 2 (gCons (gName 11) (gCons (gName 12) gNil))) from pg_tup rfl (pgs_cons (pg_name (i := 11) sc_right.nd rfl (Or.inl rfl)) (pgs_cons (pg_name (i := 12) sc_right.nd rfl (Or.inl rfl)) pgs_nil)))) (fun s_ H_ C_ cl_ fp_ => pts_nil) (fun s_ H_ C_ cl_ fp_ => (show PE _ _ (tAndV (tVar 11) (tVar 12)) from pe_and (pv 11) (pe_one (pv 12))))) (pa_cons (pe_lc (own := [("_law_a", 11), ("_law_b", 12)]) rfl sc_right.nd (pi_zip rfl gZip (pa_cons (pv 3) (pa_cons (pv 4) pa_nil))) (blkOk_by (by kernel_rfl)) (fun s_ H_ C_ cl_ fp_ => (show PG _ _ (gTup K 2 (gCons (gName 11) (gCons (gName 12) gNil))) from pg_tup rfl (pgs_cons (pg_name (i := 11) sc_right.nd rfl (Or.inl rfl)) (pgs_cons (pg_name (i := 12) sc_right.nd rfl (Or.inl rfl)) pgs_nil)))) (fun s_ H_ C_ cl_ fp_ => pts_nil) (fun s_ H_ C_ cl_ fp_ => (show PE _ _ (tOrV (tVar 11) (tVar 12)) from L2.pe_or (pv 11) (pe_one (pv 12))))) pa_nil))))
  (pss_cons (ps_expr (pe_bm PySem.F.plainAttrs_list PySem.F.slot_list_append PySem.F.type_list_append mt_append (pv 5) (pa_cons (pe_lc (own := [("_law_a", 11), ("_law_b", 12)]) rfl sc_right.nd (pi_zip rfl gZip (pa_cons (pv 3) (pa_cons (pv 4) pa_nil))) (blkOk_by (by kernel_rfl)) (fun s_ H_ C_ cl_ fp_ => (show PG _ _ (gTup K 2 (gCons (gName 11) (gCons (gName 12) gNil))) from pg_tup rfl (pgs_cons (pg_name (i := 11) sc_right.nd rfl (Or.inl rfl)) (pgs_cons (pg_name (i := 12) sc_right.nd rfl (Or.inl rfl)) pgs_nil)))) (fun s_ H_ C_ cl_ fp_ => pts_nil) (fun s_ H_ C_ cl_ fp_ => (show PE _ _ (tAndV (tVar 11) (tNotV (tVar 12))) from pe_and (pv 11) (pe_one (pe_not (pv 12)))))) pa_nil)))
  (pss_cons (ps_expr (pe_bm PySem.F.plainAttrs_list PySem.F.slot_list_append PySem.F.type_list_append mt_append (pv 5) (pa_cons (pe_lc (own := [("_law_a", 11), ("_law_b", 12)]) rfl sc_right.nd (pi_zip rfl gZip (pa_cons (pv 3) (pa_cons (pv 4) pa_nil))) (blkOk_by (by kernel_rfl)) (fun s_ H_ C_ cl_ fp_ => (show PG _ _ (gTup K 2 (gCons (gName 11) (gCons (gName 12) gNil))) from pg_tup rfl (pgs_cons (pg_name (i := 11) sc_right.nd rfl (Or.inl rfl)) (pgs_cons (pg_name (i := 12) sc_right.nd rfl (Or.inl rfl)) pgs_nil)))) (fun s_ H_ C_ cl_ fp_ => pts_nil) (fun s_ H_ C_ cl_ fp_ => (show PE _ _ (tOp rNe (tVar 11) (tVar 12)) from pe_cmpR op_ne (pv 11) (pv 12) (nomark _)))) pa_nil)))
  (C8.pss_cut (ps_for PassesOwn.never rfl (pi_zip rfl gZip (pa_cons (pe_lst (pa_cons (pe_box (pe_op (op_binX firstS oAnd iAnd G_And bAnd (hr.mono (by decide)) (passes_call LamX.takes0 (fun _ _ _ _ h => h))) (pv 6) (pv 7))) (pa_cons (pe_box (pe_op (op_binX firstS oOr iOr G_Or bOr (hr.mono (by decide)) (passes_call LamX.takes0 (fun _ _ _ _ h => h))) (pv 6) (pv 7))) (pa_cons (pe_box (pe_op (op_binX firstS oSub iSub G_Sub bSub (hr.mono (by decide)) (passes_call LamX.takes0 (fun _ _ _ _ h => h))) (pv 6) (pv 7))) (pa_cons (pe_box (pe_op (op_binX firstS oXor iXor G_Xor bXor (hr.mono (by decide)) (passes_call LamX.takes0 (fun _ _ _ _ h => h))) (pv 6) (pv 7))) pa_nil))))) (pa_cons (pv 5) pa_nil))) (pg_tup rfl (pgs_cons (pg_name (i := 8) sc_right.nd rfl (Or.inl rfl)) (pgs_cons (pg_name (i := 9) sc_right.nd rfl (Or.inl rfl)) pgs_nil))) (pss_one (ps_if (PW.pt (pw_or (pt_not (pt_val (pe_callB call_isi rfl U.z_isinstance (by decide +kernel) (pa_cons (pv 8) (pa_cons (pe_glob (v := .ref _) rfl gSiz rfl) pa_nil))))) (pw_or1 (pt_not (pt_val (pe_callG G_is (hr.mono (by decide)) hg rfl gIs Is.kp b_is .nil pass0 (by exact (pa_cons (pv 8) (pa_cons (pv 9) pa_nil))))))))) (pss_one (ps_ret pe_bl)) pss_nil)))
  (pss_cons (ps_if (pt_cmpR (op_neG (D := DIns CS (TwinS CS)) mon_twin (twin_eq G_eqS oEq iEq bEq) (hr.mono (by decide))) (pe_call G_inp (hr.mono (by decide)) rfl gIp Ip.kp b_inp .nil pass0 (by exact (pa_cons (pv 6) (pa_cons (pv 7) pa_nil)))) (pe_lst (pa_cons (pe_box (pe_op (op_binX firstS oAnd iAnd G_And bAnd (hr.mono (by decide)) (passes_call LamX.takes0 (fun _ _ _ _ h => h))) (pv 6) (pv 7))) (pa_cons (pe_box (pe_op (op_binX firstS oOr iOr G_Or bOr (hr.mono (by decide)) (passes_call LamX.takes0 (fun _ _ _ _ h => h))) (pv 6) (pv 7))) (pa_cons (pe_box (pe_op (op_binX firstS oSub iSub G_Sub bSub (hr.mono (by decide)) (passes_call LamX.takes0 (fun _ _ _ _ h => h))) (pv 6) (pv 7))) (pa_cons (pe_box (pe_op (op_binX firstS oXor iXor G_Xor bXor (hr.mono (by decide)) (passes_call LamX.takes0 (fun _ _ _ _ h => h))) (pv 6) (pv 7))) pa_nil))))) (nomark _)) (pss_one (ps_ret pe_bl)) pss_nil)
  (pss_cons (ps_if (pt_cmpR op_ne (pe_callB (call_repA hg hr.units) rfl U.z_repr (by decide +kernel) (pa_cons (pe_meth (pv 6) SC.cl Mpt G_part (hr.mono (by decide)) b_part .nil (passes_call LamX.takes0 (fun _ _ _ _ h => h)) (by exact (pa_cons (pv 7) pa_nil))) pa_nil)) (pe_callB (call_repA hg hr.units) rfl U.z_repr (by decide +kernel) (pa_cons (pe_cmpR op_notIn_seq pe_bl (pe_ix ix_list (pv 5) pe_int (fun _ _ => rfl)) (by rfl)) pa_nil)) (nomark _)) (pss_one (ps_ret pe_bl)) pss_nil)
  (pss_cons (ps_if (pt_cmpR op_ne (pe_callB (call_repA hg hr.units) rfl U.z_repr (by decide +kernel) (pa_cons (pe_meth (pv 7) SC.cl Mpt G_part (hr.mono (by decide)) b_part .nil (passes_call LamX.takes0 (fun _ _ _ _ h => h)) (by exact (pa_cons (pv 6) pa_nil))) pa_nil)) (pe_callB (call_repA hg hr.units) rfl U.z_repr (by decide +kernel) (pa_cons (pe_cmpR (op_eqD hr.units) (pv 3) (pe_ix ix_list (pv 5) pe_int (fun _ _ => rfl)) (nomark _)) pa_nil)) (nomark _)) (pss_one (ps_ret pe_bl)) pss_nil)
  (pss_one (ps_ret (pe_and (pe_callG G_is (hr.mono (by decide)) hg rfl gIs Is.kp b_is .nil pass0 (by exact (pa_cons (pe_un (un_invO oInv iInv G_inv bInv (hr.mono (by decide))) (pv 6)) (pa_cons (pe_lc (own := [("_law_a", 11)]) rfl sc_right.nd (pi_list (pv 3)) (blkOk_by (by kernel_rfl)) (fun s_ H_ C_ cl_ fp_ => (pg_name (i := 11) sc_right.nd rfl (Or.inl rfl))) (fun s_ H_ C_ cl_ fp_ => pts_nil) (fun s_ H_ C_ cl_ fp_ => (pe_not (pv 11)))) pa_nil)))) (pe_and (pe_callG G_is (hr.mono (by decide)) hg rfl gIs Is.kp b_is .nil pass0 (by exact (pa_cons (pv 6) (pa_cons (pv 3) pa_nil)))) (pe_one (pe_callG G_is (hr.mono (by decide)) hg rfl gIs Is.kp b_is .nil pass0 (by exact (pa_cons (pv 7) (pa_cons (pv 4) pa_nil)))))))))))))))))))), ?_⟩
    have sz : (2000000 : Nat) ≤ sizeLine := by show 2000000 ≤ 16777216; decide
    obtain ⟨pf, pg, hpl, hpf, hpg⟩ := id hp
    obtain ⟨vf, vg, hvl, hvf, hvg⟩ := id hv
    -- the two sets
    refine sizN_box (as := as) (gs := gs) (fun R k => ?_) g1 (by omega) fun H1 x b p s1 fo le at_ => ?_
    · exact ⟨_, rfl, pl, _, ((0 : Nat) : Int), _, rfl, rfl, SqT.of hpl, rfl, _, rfl, pl, _, ((1 : Nat) : Int), _, rfl, rfl, SqT.of hpl, rfl, k H pf pg false false (fun _ _ z => z) hpf hpg⟩
    have tx := made_tells g1 fo le (by omega) at_
    clear fo le at_
    refine sizN_box (as := as') (gs := gs') (fun R k => ?_) g1' (by omega) fun H2 y b' p' s2 fo le at_ => ?_
    · exact ⟨_, rfl, rv, _, ((0 : Nat) : Int), _, rfl, rfl, SqT.of (s1 _ _ hvl), rfl, _, rfl, rv, _, ((1 : Nat) : Int), _, rfl, rfl, SqT.of (s1 _ _ hvl), rfl, k H1 vf vg false false (fun _ _ z => z) (s1 _ _ hvf) (s1 _ _ hvg)⟩
    have ty2 := made_tells g1' fo le (by omega) at_
    clear fo le at_
    refine ⟨_, _, rfl, ?_⟩
    have s12 := s1.trans s2
    replace tx := tx.same s2
    obtain ⟨xs, ws, hx, ls, lb, per, mx⟩ := tx.ex
    obtain ⟨xs', ws', hy, ls', lb', per', my⟩ := ty2.ex
    have w1 := ls.len.1
    have w1' := ls'.len.1
    have dw : ws.length ∣ gs.length * gs'.length := Nat.dvd_trans (show ws.length ∣ gs.length from per) (Nat.dvd_mul_right ..)
    have dw' : ws'.length ∣ gs.length * gs'.length := Nat.dvd_trans (show ws'.length ∣ gs'.length from per') (Nat.dvd_mul_left ..)
    have big : gs.length * gs'.length ≤ 15 * 15 := Nat.mul_le_mul lg lg'
    have pos : 0 < gs.length * gs'.length := Nat.mul_pos g1 g1'
    have lc := Nat.le_of_dvd pos (Nat.lcm_dvd dw dw')
    have pr : Pair CS H2 x y xs ws xs' ws' := ⟨hx, hy, ls, ls', by omega⟩
    obtain ⟨N, eN⟩ : ∃ N, N = max as.length as'.length + gs.length * gs'.length + 2 := ⟨_, rfl⟩
    have N5 : N ≤ 500 := by omega
    refine ⟨fun σ' H' => σ' = [some (.ref pl), some (.ref rv), some (.int (N + 1 : Nat)), none, none, none, some (.ref x), some (.ref y), none, none, none, none, none] ∧ H2 = H', ?_, ?_⟩
    · refine ⟨_, rfl, pl, _, ((0 : Nat) : Int), _, rfl, rfl, SqT.of (s12 _ _ hpl), rfl, _, _, rfl, lenB (s12 _ _ hpf), _, rfl, rv, _, ((0 : Nat) : Int), _, rfl, rfl, SqT.of (s12 _ _ hvl), rfl, _, _, rfl, lenB (s12 _ _ hvf), _, _, rfl, ?_⟩
      refine ⟨_, rfl, pl, _, ((1 : Nat) : Int), _, rfl, rfl, SqT.of (s12 _ _ hpl), rfl, _, _, rfl, lenB (s12 _ _ hpg), _, rfl, rv, _, ((1 : Nat) : Int), _, rfl, rfl, SqT.of (s12 _ _ hvl), rfl, _, _, rfl, lenB (s12 _ _ hvg), _, _, rfl, rfl, .inl ⟨by omega, by omega⟩, _, _, rfl, rfl, _, _, rfl, rfl, ?_⟩
      have er : (if (as'.length : Int) > (as.length : Int) then (as'.length : Int) else (as.length : Int)) + (gs.length : Int) * (gs'.length : Int) + 3 = ((N + 1 : Nat) : Int) := by
        rw [show (gs.length : Int) * (gs'.length : Int) = ((gs.length * gs'.length : Nat) : Int) from rfl]
        split <;> omega
      exact ⟨congrArg (fun z : Int => ([some (.ref pl), some (.ref rv), some (V.int z), none, none, none, some (.ref x), some (.ref y), none, none, none, none, none] : List (Option V))) er, rfl⟩
    rintro σ' H' ⟨rfl, rfl⟩
    -- what is told of each
    obtain ⟨fx, efx⟩ : ∃ fx, fx = sizB as gs := ⟨_, rfl⟩
    obtain ⟨fy, efy⟩ : ∃ fy, fy = sizB as' gs' := ⟨_, rfl⟩
    refine ⟨fun σ' H' => ∃ lL, σ' = [some (.ref pl), some (.ref rv), some (.int (N + 1 : Nat)), some (.ref lL), none, none, some (.ref x), some (.ref y), none, none, none, none, none] ∧ Same H' H' ∧ Same H2 H' ∧ H' lL = some (.lst ((rowR fx N).map V.bl)), ?_, ?_⟩
    · refine ⟨_, rfl, 1, ((N + 1 : Nat) : Int), rfl, ⟨by decide, by decide, by omega, by omega⟩, fun D hD => ?_⟩
      have en : (((N + 1 : Nat) : Int) - 1).toNat = N := by omega
      rw [en]
      refine lc_range (lo := 1) (n := N) (fun i H' => Same H2 H' ∧ H' D = some (.lst (((rowR fx N).take i).map V.bl))) ⟨Same.new hD, upd_same⟩ (fun i H' hi q => ?_) (fun H' q => ?_)
      · refine ⟨rfl, ?_⟩
        refine iteT (B := Same H2 H' ∧ H' D = some (.lst (((rowR fx N).take (i + 1)).map V.bl))) ?_
        refine ⟨_, rfl, _, rfl, pl, as, gs, i, by show [V.ref pl, V.int _] = _; rw [Int.add_comm], (hp.mono s12).mono q.1, g1, by omega, ?_⟩
        exact row_step q.1 hD q.2 (by rw [rowR_at hi, efx]) (by rw [rowR_len]; omega)
      · rw [List.take_of_length_le (by rw [rowR_len]; omega)] at q
        exact ⟨D, rfl, fun _ _ z => z, q.1, q.2⟩
    rintro σ' H3 ⟨lL, rfl, _, s3, hL⟩
    refine ⟨fun σ' H' => ∃ lR, σ' = [some (.ref pl), some (.ref rv), some (.int (N + 1 : Nat)), some (.ref lL), some (.ref lR), none, some (.ref x), some (.ref y), none, none, none, none, none] ∧ Same H3 H' ∧ H' lR = some (.lst ((rowR fy N).map V.bl)), ?_, ?_⟩
    · refine ⟨_, rfl, 1, ((N + 1 : Nat) : Int), rfl, ⟨by decide, by decide, by omega, by omega⟩, fun D hD => ?_⟩
      have en : (((N + 1 : Nat) : Int) - 1).toNat = N := by omega
      rw [en]
      refine lc_range (lo := 1) (n := N) (fun i H' => Same H3 H' ∧ H' D = some (.lst (((rowR fy N).take i).map V.bl))) ⟨Same.new hD, upd_same⟩ (fun i H' hi q => ?_) (fun H' q => ?_)
      · refine ⟨rfl, ?_⟩
        refine iteT (B := Same H3 H' ∧ H' D = some (.lst (((rowR fy N).take (i + 1)).map V.bl))) ?_
        refine ⟨_, rfl, _, rfl, rv, as', gs', i, by show [V.ref rv, V.int _] = _; rw [Int.add_comm], ((hv.mono s12).mono s3).mono q.1, g1', by omega, ?_⟩
        exact row_step q.1 hD q.2 (by rw [rowR_at hi, efy]) (by rw [rowR_len]; omega)
      · rw [List.take_of_length_le (by rw [rowR_len]; omega)] at q
        exact ⟨D, rfl, q.1, q.2⟩
    rintro σ' H4 ⟨lR, rfl, s4, hR⟩
    replace hL := s4 _ _ hL
    replace s4 := s3.trans s4
    clear s3
    have s0 : Same H4 H4 := fun _ _ z => z
    refine ⟨_, rfl, _, rfl, lL, lR, _, _, rfl, SqL.of (s0 _ _ hL), SqL.of (s0 _ _ hR), fun D1 hD1 => ?_⟩
    obtain ⟨row1, er1⟩ : ∃ row, row = zipR (fun mine yours => mine && yours) fx fy N := ⟨_, rfl⟩
    refine lc_it (walk_zip (K := K) (a := lL) (b := lR) (xs := (rowR fx N).map V.bl) (ys := (rowR fy N).map V.bl) (n := N) (by rw [List.length_map, List.length_map, rowR_len, rowR_len]; omega)) (fun i H' => Same H4 H' ∧ H' D1 = some (.lst ((row1.take i).map V.bl))) ⟨Same.new hD1, upd_same⟩ (fun i H' _ q => ⟨SqL.of (q.1 _ _ (s0 _ _ hL)), SqL.of (q.1 _ _ (s0 _ _ hR))⟩) (fun i e H' H'' hi q yy => ?_) (fun H5 q => ?_)
    · obtain ⟨T, e1, e2, rfl, hT, rfl, x1, x2⟩ := yy
      obtain rfl := rowV_at hi x1
      obtain rfl := rowV_at hi x2
      have app : ∀ z : Bool, z = (fun mine yours : Bool => mine && yours) (fx i) (fy i) → ∃ acc, upd H' T (.tup [V.bl (fx i), .bl (fy i)]) D1 = some (.lst acc) ∧ acc.length < sizeLine ∧ (Same H4 (upd (upd H' T (.tup [V.bl (fx i), .bl (fy i)])) D1 (.lst (acc ++ [V.bl z]))) ∧ upd (upd H' T (.tup [V.bl (fx i), .bl (fy i)])) D1 (.lst (acc ++ [V.bl z])) D1 = some (.lst ((row1.take (i + 1)).map V.bl))) := fun z ez => by
        refine row_step (q.1.trans (Same.new hT)) hD1 (Same.new hT _ _ q.2) ?_ (by rw [er1, zipR_row, rowR_len]; omega)
        rw [er1, zipR_row, rowR_at hi, ez]
      refine ⟨T, _, rfl, SqT.of upd_same, rfl, _, _, rfl, _, _, rfl, rfl, rfl, ?_⟩
      refine iteT (B := Same H4 (upd H' T (.tup [V.bl (fx i), .bl (fy i)])) ∧ upd H' T (.tup [V.bl (fx i), .bl (fy i)]) D1 = some (.lst ((row1.take (i + 1)).map V.bl))) ?_
      · revert app
        generalize fx i = u
        generalize fy i = v
        intro app
        refine ⟨_, rfl, u, rfl, ?_⟩
        cases u with
        | false => exact iteF (app _ rfl)
        | true => exact iteT ⟨_, rfl, app _ rfl⟩
    rw [List.take_of_length_le (by rw [er1, zipR_row, rowR_len]; omega)] at q
    obtain ⟨n1, d1⟩ := q
    refine ⟨_, rfl, _, rfl, lL, lR, _, _, rfl, SqL.of (n1 _ _ hL), SqL.of (n1 _ _ hR), fun D2 hD2 => ?_⟩
    obtain ⟨row2, er2⟩ : ∃ row, row = zipR (fun mine yours => mine || yours) fx fy N := ⟨_, rfl⟩
    refine lc_it (walk_zip (K := K) (a := lL) (b := lR) (xs := (rowR fx N).map V.bl) (ys := (rowR fy N).map V.bl) (n := N) (by rw [List.length_map, List.length_map, rowR_len, rowR_len]; omega)) (fun i H' => Same H5 H' ∧ H' D2 = some (.lst ((row2.take i).map V.bl))) ⟨Same.new hD2, upd_same⟩ (fun i H' _ q => ⟨SqL.of (q.1 _ _ (n1 _ _ hL)), SqL.of (q.1 _ _ (n1 _ _ hR))⟩) (fun i e H' H'' hi q yy => ?_) (fun H6 q => ?_)
    · obtain ⟨T, e1, e2, rfl, hT, rfl, x1, x2⟩ := yy
      obtain rfl := rowV_at hi x1
      obtain rfl := rowV_at hi x2
      have app : ∀ z : Bool, z = (fun mine yours : Bool => mine || yours) (fx i) (fy i) → ∃ acc, upd H' T (.tup [V.bl (fx i), .bl (fy i)]) D2 = some (.lst acc) ∧ acc.length < sizeLine ∧ (Same H5 (upd (upd H' T (.tup [V.bl (fx i), .bl (fy i)])) D2 (.lst (acc ++ [V.bl z]))) ∧ upd (upd H' T (.tup [V.bl (fx i), .bl (fy i)])) D2 (.lst (acc ++ [V.bl z])) D2 = some (.lst ((row2.take (i + 1)).map V.bl))) := fun z ez => by
        refine row_step (q.1.trans (Same.new hT)) hD2 (Same.new hT _ _ q.2) ?_ (by rw [er2, zipR_row, rowR_len]; omega)
        rw [er2, zipR_row, rowR_at hi, ez]
      refine ⟨T, _, rfl, SqT.of upd_same, rfl, _, _, rfl, _, _, rfl, rfl, rfl, ?_⟩
      refine iteT (B := Same H5 (upd H' T (.tup [V.bl (fx i), .bl (fy i)])) ∧ upd H' T (.tup [V.bl (fx i), .bl (fy i)]) D2 = some (.lst ((row2.take (i + 1)).map V.bl))) ?_
      · revert app
        generalize fx i = u
        generalize fy i = v
        intro app
        refine ⟨_, rfl, u, rfl, ?_⟩
        cases u with
        | false => exact iteF ⟨_, rfl, app _ rfl⟩
        | true => exact iteT (app _ rfl)
    rw [List.take_of_length_le (by rw [er2, zipR_row, rowR_len]; omega)] at q
    obtain ⟨n2, d2⟩ := q
    have m2 := n1.trans n2
    refine ⟨by show 2 ≤ sizeLine; omega, fun du hdu => ?_⟩
    have u3 := Same.new (o := .lst [V.ref D1, .ref D2]) hdu
    have m3 := m2.trans u3
    have d1' := n2 _ _ d1
    have ne1 : D1 ≠ du := fun z => by rw [z, hdu] at d1'; cases d1'
    have ne2 : D2 ≠ du := fun z => by rw [z, hdu] at d2; cases d2
    have hd3 := upd_same (H := H6) (a := du) (o := .lst [V.ref D1, .ref D2])
    replace d1 := u3 _ _ d1'
    replace d2 := u3 _ _ d2
    have dn : H4 du = none := un_same m2 hdu
    clear n1 n2 m2 u3 d1' hdu
    show tSeq _ _ _ _ (upd H6 du (.lst [V.ref D1, .ref D2]))
    generalize upd H6 du (.lst [V.ref D1, .ref D2]) = G3 at m3 hd3 d1 d2 ⊢
    clear hD1 hD2
    refine ⟨_, rfl, .inl ⟨rfl, _, SqL.of hd3⟩, _, rfl, _, rfl, lL, lR, _, _, rfl, SqL.of (m3 _ _ hL), SqL.of (m3 _ _ hR), fun D3 hD3 => ?_⟩
    obtain ⟨row3, er3⟩ : ∃ row, row = zipR (fun mine yours => mine && !yours) fx fy N := ⟨_, rfl⟩
    refine lc_it (walk_zip (K := K) (a := lL) (b := lR) (xs := (rowR fx N).map V.bl) (ys := (rowR fy N).map V.bl) (n := N) (by rw [List.length_map, List.length_map, rowR_len, rowR_len]; omega)) (fun i H' => Same G3 H' ∧ H' D3 = some (.lst ((row3.take i).map V.bl))) ⟨Same.new hD3, upd_same⟩ (fun i H' _ q => ⟨SqL.of (q.1 _ _ (m3 _ _ hL)), SqL.of (q.1 _ _ (m3 _ _ hR))⟩) (fun i e H' H'' hi q yy => ?_) (fun H7 q => ?_)
    · obtain ⟨T, e1, e2, rfl, hT, rfl, x1, x2⟩ := yy
      obtain rfl := rowV_at hi x1
      obtain rfl := rowV_at hi x2
      have app : ∀ z : Bool, z = (fun mine yours : Bool => mine && !yours) (fx i) (fy i) → ∃ acc, upd H' T (.tup [V.bl (fx i), .bl (fy i)]) D3 = some (.lst acc) ∧ acc.length < sizeLine ∧ (Same G3 (upd (upd H' T (.tup [V.bl (fx i), .bl (fy i)])) D3 (.lst (acc ++ [V.bl z]))) ∧ upd (upd H' T (.tup [V.bl (fx i), .bl (fy i)])) D3 (.lst (acc ++ [V.bl z])) D3 = some (.lst ((row3.take (i + 1)).map V.bl))) := fun z ez => by
        refine row_step (q.1.trans (Same.new hT)) hD3 (Same.new hT _ _ q.2) ?_ (by rw [er3, zipR_row, rowR_len]; omega)
        rw [er3, zipR_row, rowR_at hi, ez]
      refine ⟨T, _, rfl, SqT.of upd_same, rfl, _, _, rfl, _, _, rfl, rfl, rfl, ?_⟩
      refine iteT (B := Same G3 (upd H' T (.tup [V.bl (fx i), .bl (fy i)])) ∧ upd H' T (.tup [V.bl (fx i), .bl (fy i)]) D3 = some (.lst ((row3.take (i + 1)).map V.bl))) ?_
      · revert app
        generalize fx i = u
        generalize fy i = v
        intro app
        refine ⟨_, rfl, u, rfl, ?_⟩
        cases u with
        | false => exact iteF (app _ rfl)
        | true => exact iteT ⟨_, rfl, v, rfl, app _ rfl⟩
    rw [List.take_of_length_le (by rw [er3, zipR_row, rowR_len]; omega)] at q
    obtain ⟨n3, d3⟩ := q
    have ne3 : D3 ≠ du := fun z => by rw [z, hd3] at hD3; cases hD3
    refine ⟨du, _, _, rfl, rfl, n3 _ _ hd3, by show 2 < sizeLine; omega, ?_⟩
    have m4 : Same H4 (upd H7 du (.lst ([V.ref D1, .ref D2] ++ [V.ref D3]))) := fun b o e => by
      rw [upd_ne fun z => by rw [z, dn] at e; cases e]
      exact n3 _ _ (m3 _ _ e)
    have hd4 := upd_same (H := H7) (a := du) (o := .lst ([V.ref D1, .ref D2] ++ [V.ref D3]))
    replace d1 : upd H7 du (.lst ([V.ref D1, .ref D2] ++ [V.ref D3])) D1 = _ := (upd_ne ne1).trans (n3 _ _ d1)
    replace d2 : upd H7 du (.lst ([V.ref D1, .ref D2] ++ [V.ref D3])) D2 = _ := (upd_ne ne2).trans (n3 _ _ d2)
    replace d3 : upd H7 du (.lst ([V.ref D1, .ref D2] ++ [V.ref D3])) D3 = _ := (upd_ne ne3).trans d3
    show tSeq _ _ _ _ (upd H7 du (.lst ([V.ref D1, .ref D2] ++ [V.ref D3])))
    generalize upd H7 du (.lst ([V.ref D1, .ref D2] ++ [V.ref D3])) = G4 at m4 hd4 d1 d2 d3 ⊢
    clear n3 m3 hd3 hD3
    refine ⟨_, rfl, .inl ⟨rfl, _, SqL.of hd4⟩, _, rfl, _, rfl, lL, lR, _, _, rfl, SqL.of (m4 _ _ hL), SqL.of (m4 _ _ hR), fun D4 hD4 => ?_⟩
    obtain ⟨row4, er4⟩ : ∃ row, row = zipR (fun mine yours => mine != yours) fx fy N := ⟨_, rfl⟩
    refine lc_it (walk_zip (K := K) (a := lL) (b := lR) (xs := (rowR fx N).map V.bl) (ys := (rowR fy N).map V.bl) (n := N) (by rw [List.length_map, List.length_map, rowR_len, rowR_len]; omega)) (fun i H' => Same G4 H' ∧ H' D4 = some (.lst ((row4.take i).map V.bl))) ⟨Same.new hD4, upd_same⟩ (fun i H' _ q => ⟨SqL.of (q.1 _ _ (m4 _ _ hL)), SqL.of (q.1 _ _ (m4 _ _ hR))⟩) (fun i e H' H'' hi q yy => ?_) (fun H8 q => ?_)
    · obtain ⟨T, e1, e2, rfl, hT, rfl, x1, x2⟩ := yy
      obtain rfl := rowV_at hi x1
      obtain rfl := rowV_at hi x2
      have app : ∀ z : Bool, z = (fun mine yours : Bool => mine != yours) (fx i) (fy i) → ∃ acc, upd H' T (.tup [V.bl (fx i), .bl (fy i)]) D4 = some (.lst acc) ∧ acc.length < sizeLine ∧ (Same G4 (upd (upd H' T (.tup [V.bl (fx i), .bl (fy i)])) D4 (.lst (acc ++ [V.bl z]))) ∧ upd (upd H' T (.tup [V.bl (fx i), .bl (fy i)])) D4 (.lst (acc ++ [V.bl z])) D4 = some (.lst ((row4.take (i + 1)).map V.bl))) := fun z ez => by
        refine row_step (q.1.trans (Same.new hT)) hD4 (Same.new hT _ _ q.2) ?_ (by rw [er4, zipR_row, rowR_len]; omega)
        rw [er4, zipR_row, rowR_at hi, ez]
      refine ⟨T, _, rfl, SqT.of upd_same, rfl, _, _, rfl, _, _, rfl, rfl, rfl, ?_⟩
      refine iteT (B := Same G4 (upd H' T (.tup [V.bl (fx i), .bl (fy i)])) ∧ upd H' T (.tup [V.bl (fx i), .bl (fy i)]) D4 = some (.lst ((row4.take (i + 1)).map V.bl))) ?_
      · revert app
        generalize fx i = u
        generalize fy i = v
        intro app
        exact ⟨_, rfl, _, rfl, rfl, app _ (by cases u <;> cases v <;> decide)⟩
    rw [List.take_of_length_le (by rw [er4, zipR_row, rowR_len]; omega)] at q
    obtain ⟨n4, d4⟩ := q
    have ne4 : D4 ≠ du := fun z => by rw [z, hd4] at hD4; cases hD4
    refine ⟨du, _, _, rfl, rfl, n4 _ _ hd4, by show 3 < sizeLine; omega, ?_⟩
    have m5 : Same H4 (upd H8 du (.lst (([V.ref D1, .ref D2] ++ [V.ref D3]) ++ [V.ref D4]))) := fun b o e => by
      rw [upd_ne fun z => by rw [z, dn] at e; cases e]
      exact n4 _ _ (m4 _ _ e)
    have hd5 := upd_same (H := H8) (a := du) (o := .lst (([V.ref D1, .ref D2] ++ [V.ref D3]) ++ [V.ref D4]))
    replace d1 : upd H8 du (.lst (([V.ref D1, .ref D2] ++ [V.ref D3]) ++ [V.ref D4])) D1 = _ := (upd_ne ne1).trans (n4 _ _ d1)
    replace d2 : upd H8 du (.lst (([V.ref D1, .ref D2] ++ [V.ref D3]) ++ [V.ref D4])) D2 = _ := (upd_ne ne2).trans (n4 _ _ d2)
    replace d3 : upd H8 du (.lst (([V.ref D1, .ref D2] ++ [V.ref D3]) ++ [V.ref D4])) D3 = _ := (upd_ne ne3).trans (n4 _ _ d3)
    replace d4 : upd H8 du (.lst (([V.ref D1, .ref D2] ++ [V.ref D3]) ++ [V.ref D4])) D4 = _ := (upd_ne ne4).trans d4
    show tSeq _ _ _ _ (upd H8 du (.lst (([V.ref D1, .ref D2] ++ [V.ref D3]) ++ [V.ref D4])))
    generalize upd H8 du (.lst (([V.ref D1, .ref D2] ++ [V.ref D3]) ++ [V.ref D4])) = G5 at m5 hd5 d1 d2 d3 d4 ⊢
    clear n4 m4 hd4 hD4
    replace hL := m5 _ _ hL
    replace hR := m5 _ _ hR
    have s5 := s4.trans m5
    have p5 := pr.same s5
    refine ⟨fun σ' H' => ∃ v8 v9, σ' = [some (.ref pl), some (.ref rv), some (.int (N + 1 : Nat)), some (.ref lL), some (.ref lR), some (.ref du), some (.ref x), some (.ref y), v8, v9, none, none, none] ∧ Same G5 H', ?_, ?_⟩
    · refine bin_box rfl rfl p5 fun Ha z1 na j1 => ?_
      refine bin_box rfl rfl (p5.same na) fun Hb z2 nb j2 => ?_
      refine bin_box rfl rfl ((p5.same na).same nb) fun Hc z3 nc j3 => ?_
      refine bin_box rfl rfl (((p5.same na).same nb).same nc) fun Hd z4 nd j4 => ?_
      refine ⟨by show 4 ≤ sizeLine; omega, fun zl hzl => ?_⟩
      have ne := Same.new (o := .lst [V.ref z1, .ref z2, .ref z3, .ref z4]) hzl
      have sz5 := (((na.trans nb).trans nc).trans nd).trans ne
      have hz := upd_same (H := Hd) (a := zl) (o := .lst [V.ref z1, .ref z2, .ref z3, .ref z4])
      replace j1 := (((j1.same nb).same nc).same nd).same ne
      replace j2 := ((j2.same nc).same nd).same ne
      replace j3 := (j3.same nd).same ne
      replace j4 := j4.same ne
      have hdz := sz5 _ _ hd5
      replace d1 := sz5 _ _ d1
      replace d2 := sz5 _ _ d2
      replace d3 := sz5 _ _ d3
      replace d4 := sz5 _ _ d4
      refine ⟨_, rfl, zl, du, _, _, rfl, SqL.of hz, SqL.of hdz, ?_⟩
      generalize upd Hd zl (.lst [V.ref z1, .ref z2, .ref z3, .ref z4]) = Hz at sz5 hz j1 j2 j3 j4 hdz d1 d2 d3 d4 ⊢
      have all : ∀ i e1 e2, i < 4 → [V.ref z1, .ref z2, .ref z3, .ref z4][i]? = some e1 → (([V.ref D1, .ref D2] ++ [V.ref D3]) ++ [V.ref D4])[i]? = some e2 → ∃ (z d : Addr) (op : Bool → Bool → Bool), e1 = .ref z ∧ e2 = .ref d ∧ Joined CS Hz z op xs ws xs' ws' ∧ Hz d = some (.lst ((zipR op fx fy N).map V.bl)) := fun i e1 e2 hi x1 x2 => by
        match i, hi, x1, x2 with
        | 0, _, x1, x2 => cases x1; cases x2; exact ⟨z1, D1, _, rfl, rfl, j1, by rw [← er1]; exact d1⟩
        | 1, _, x1, x2 => cases x1; cases x2; exact ⟨z2, D2, _, rfl, rfl, j2, by rw [← er2]; exact d2⟩
        | 2, _, x1, x2 => cases x1; cases x2; exact ⟨z3, D3, _, rfl, rfl, j3, by rw [← er3]; exact d3⟩
        | 3, _, x1, x2 => cases x1; cases x2; exact ⟨z4, D4, _, rfl, rfl, j4, by rw [← er4]; exact d4⟩
        | n + 4, h, _, _ => exact absurd h (by omega)
      refine for_it (walk_zip (K := K) (a := zl) (b := du) (xs := [V.ref z1, .ref z2, .ref z3, .ref z4]) (ys := ([V.ref D1, .ref D2] ++ [V.ref D3]) ++ [V.ref D4]) (n := 4) rfl) (fun i σ' H' => ∃ v8 v9, σ' = [some (.ref pl), some (.ref rv), some (.int (N + 1 : Nat)), some (.ref lL), some (.ref lR), some (.ref du), some (.ref x), some (.ref y), v8, v9, none, none, none] ∧ Same Hz H') ⟨none, none, rfl, fun _ _ z => z⟩ ?_ ?_ ?_
      · rintro i σ' H' _ ⟨v8, v9, rfl, s⟩
        exact ⟨SqL.of (s _ _ hz), SqL.of (s _ _ hdz)⟩
      · rintro i v σ' H' H'' hi ⟨v8, v9, rfl, s⟩ ⟨T, e1, e2, rfl, hT, rfl, x1, x2⟩
        obtain ⟨z, d, op, rfl, rfl, jz, hd⟩ := all i _ _ hi x1 x2
        have sT := s.trans (Same.new (o := .tup [V.ref z, .ref d]) hT)
        refine ⟨T, _, rfl, SqT.of upd_same, rfl, _, _, rfl, _, _, rfl, rfl, ?_⟩
        replace jz := jz.same sT
        obtain ⟨zs, zg, hz2, lz, _, _, mz⟩ := Tells.ex jz
        obtain ⟨dz, tz, uz, cz, _, _⟩ := id hz2
        refine ⟨_, rfl, _, _, _, _, _, rfl, .own CS, ty.ty SC.cl cz, self_, _, rfl, iteF ?_⟩
        refine ⟨_, rfl, _, rfl, z, d, zs, zg, zipR op fx fy N, rfl, hz2, lz, sT _ _ hd, by rw [zipR_row, rowR_len]; omega, fun k b hk => ?_, fun H3 s3 => ⟨_, rfl, iteF ?_⟩⟩
        · have kl : k < N := by
            have q := (List.getElem?_eq_some_iff.mp hk).1
            rw [zipR_row, rowR_len] at q
            exact q
          rw [zipR_row, rowR_at kl] at hk
          cases hk
          rw [mz k, mx k, my k, efx, efy]
        · exact ⟨_, _, rfl, sT.trans s3⟩
      · rintro σ' H' ⟨v8, v9, rfl, s⟩
        exact ⟨v8, v9, rfl, sz5.trans s⟩
    rintro σ' G6 ⟨v8, v9, rfl, s6⟩
    replace p5 := p5.same s6
    replace hL := s6 _ _ hL
    replace hR := s6 _ _ hR
    replace hd5 := s6 _ _ hd5
    replace d2 := s6 _ _ d2
    replace d3 := s6 _ _ d3
    have s6' := s5.trans s6
    clear s5 s6 d1 d4
    -- in place
    refine ⟨_, rfl, _, rfl, x, y, xs, ws, xs', ws', rfl, p5, fun Ha l z1 z2 z3 z4 sa hl j1 j2 j3 j4 => ?_⟩
    refine bin_box rfl rfl (p5.same sa) fun Hb v1 sb k1 => ?_
    refine bin_box rfl rfl ((p5.same sa).same sb) fun Hc v2 sc k2 => ?_
    refine bin_box rfl rfl (((p5.same sa).same sb).same sc) fun Hd v3 sd k3 => ?_
    refine bin_box rfl rfl ((((p5.same sa).same sb).same sc).same sd) fun He v4 se k4 => ?_
    refine ⟨by show 4 ≤ sizeLine; omega, fun l2 hl2 => ?_⟩
    have sf := Same.new (o := .lst [V.ref v1, .ref v2, .ref v3, .ref v4]) hl2
    have hlf := upd_same (H := He) (a := l2) (o := .lst [V.ref v1, .ref v2, .ref v3, .ref v4])
    have sbf := (((sb.trans sc).trans sd).trans se).trans sf
    have tw : ∀ {z v : Addr} {op : Bool → Bool → Bool}, Joined CS (upd He l2 (.lst [V.ref v1, .ref v2, .ref v3, .ref v4])) z op xs ws xs' ws' → Joined CS (upd He l2 (.lst [V.ref v1, .ref v2, .ref v3, .ref v4])) v op xs ws xs' ws' → DIns CS (TwinS CS) (.ref z) (.ref v) (upd He l2 (.lst [V.ref v1, .ref v2, .ref v3, .ref v4])) := fun {z v op} a b => by
      have t := Tells.twin a b
      obtain ⟨rx, rg, ⟨da, ta, ua, ca, _⟩, ⟨db, tb, ub, cb, _⟩⟩ := id t
      exact ⟨z, v, da, db, _, _, rfl, rfl, ca, cb, t⟩
    refine ⟨⟨l, l2, _, _, rfl, rfl, sbf _ _ hl, hlf, .cons (tw (j1.same sbf) ((((k1.same sc).same sd).same se).same sf)) (.cons (tw (j2.same sbf) (((k2.same sd).same se).same sf)) (.cons (tw (j3.same sbf) ((k3.same se).same sf)) (.cons (tw (j4.same sbf) (k4.same sf)) .nil)))⟩, fun Hg eg => ⟨_, rfl, iteF ?_⟩⟩
    have sg : Same G6 Hg := (sa.trans sbf).trans eg
    replace p5 := p5.same sg
    replace hL := sg _ _ hL
    replace hd5 := sg _ _ hd5
    replace hR := sg _ _ hR
    replace d2 := sg _ _ d2
    replace d3 := sg _ _ d3
    have s7 := s6'.trans sg
    clear s6' sg eg tw sbf hlf sf se sd sc sb sa j1 j2 j3 j4 k1 k2 k3 k4 hl hl2
    -- parts
    obtain ⟨hx5, hy5, _, _, le5⟩ := id p5
    obtain ⟨dx, tx1, ux1, cx, _, _⟩ := id hx5
    obtain ⟨dy, ty1, uy1, cy, _, _⟩ := id hy5
    have subs : ∀ {a b a' b' : List Bool}, (∀ i, i < N → sizB a b i = true → sizB a' b' i = true) → 1 ≤ b.length → 1 ≤ b'.length → max a.length a'.length + b.length * b'.length ≤ N → ∀ i, sizB a b i = true → sizB a' b' i = true := fun h g g' n => far_sub g g' n h
    refine ⟨_, rfl, x, dx, _, rfl, cx, rfl, _, rfl, x, y, xs, ws, xs', ws', rfl, hx5, hy5, ls, ls', fun z => absurd z (by omega), fun _ Hh b sh hb => ?_⟩
    refine rep_b ?_
    refine ⟨_, rfl, du, _, ((2 : Nat) : Int), _, rfl, rfl, SqL.of (sh _ _ hd5), rfl, D3, _, rfl, .inl (SqL.of (sh _ _ d3)), rfl, flat_bools _, ?_⟩
    have eb : b = !inV (.bl true) (row3.map V.bl) := by
      rw [inV_bools]
      have q : row3.any id = true ↔ ∃ i, i < N ∧ fx i = true ∧ fy i = false := by
        rw [er3, zipR_row, List.any_eq_true]
        constructor
        · rintro ⟨c, hc, tc⟩
          obtain ⟨i, hi⟩ := List.mem_iff_getElem?.mp hc
          have il : i < N := by
            have q := (List.getElem?_eq_some_iff.mp hi).1
            rw [rowR_len] at q
            exact q
          rw [rowR_at il] at hi
          have tc2 : c = true := tc
          rw [tc2] at hi
          have e : (fx i && !fy i) = true := Option.some.inj hi
          refine ⟨i, il, ?_⟩
          revert e
          cases fx i <;> cases fy i <;> simp
        · rintro ⟨i, il, a, c⟩
          refine ⟨true, List.mem_iff_getElem?.mpr ⟨i, ?_⟩, rfl⟩
          rw [rowR_at il, a, c]
          rfl
      cases e : row3.any id with
      | true =>
        obtain ⟨i, _, a, c⟩ := q.mp e
        cases b with
        | false => rfl
        | true =>
          have z := hb.mp rfl i (by rw [mx, ← efx]; exact a)
          rw [my, ← efy, c] at z
          cases z
      | false =>
        have z : b = true := hb.mpr fun h hh => by
          rw [mx] at hh
          rw [my]
          refine subs (a := as) (b := gs) (a' := as') (b' := gs') (fun i hi hf => ?_) g1 g1' (by omega) h hh
          rw [← efx] at hf
          rw [← efy]
          cases c : fy i with
          | true => rfl
          | false => rw [q.mpr ⟨i, hi, hf, c⟩] at e; cases e
        rw [z]
        rfl
    show rRepA _ _ _ _
    refine rep_b ⟨rfl, _, rfl, ?_⟩
    refine ite2 (fun k => ?_) (fun _ => ?_)
    · rw [eb] at k
      exact (ne_self k).elim
    have hx6 := hx5.same sh
    have hy6 := hy5.same sh
    replace cy := sh _ _ cy
    replace hL := sh _ _ hL
    replace hR := sh _ _ hR
    replace hd5 := sh _ _ hd5
    replace d2 := sh _ _ d2
    have s8 := s7.trans sh
    clear s7 sh hb eb
    refine ⟨_, rfl, y, dy, _, rfl, cy, rfl, _, rfl, y, x, xs', ws', xs, ws, rfl, hy6, hx6, ls', ls, fun z => absurd z (by rw [Nat.lcm_comm, Nat.max_comm]; omega), fun _ Hi b si hb => ?_⟩
    refine rep_b ?_
    refine ⟨_, rfl, _, rfl, du, _, ((1 : Nat) : Int), _, rfl, rfl, SqL.of (si _ _ hd5), rfl, ?_⟩
    refine SqB.eqB (t := false) (show _ = some (HO.lst ((rowR fx N).map V.bl)) from si _ _ hL) (show _ = some (HO.lst (row2.map V.bl)) from si _ _ d2) ?_
    have eb : b = decide (rowR fx N = row2) := by
      have q : rowR fx N = row2 ↔ ∀ i, i < N → fy i = true → fx i = true := by
        rw [er2, zipR_row]
        constructor
        · intro e i il fyi
          have z := congrArg (fun l : List Bool => l[i]?) e
          replace z : (rowR fx N)[i]? = (rowR (fun i => fx i || fy i) N)[i]? := z
          rw [rowR_at il, rowR_at il] at z
          have z2 : fx i = (fx i || fy i) := Option.some.inj z
          rw [fyi, Bool.or_true] at z2
          exact z2
        · intro all
          refine List.map_congr_left fun i hi => ?_
          have il := List.mem_range.mp hi
          have z := all i il
          revert z
          cases fx i <;> cases fy i <;> simp
      cases e : decide (rowR fx N = row2) with
      | true =>
        refine hb.mpr fun h hh => ?_
        rw [my] at hh
        rw [mx]
        have al := q.mp (of_decide_eq_true e)
        refine subs (a := as') (b := gs') (a' := as) (b' := gs) (fun i hi hf => ?_) g1' g1 (by rw [Nat.max_comm, Nat.mul_comm]; omega) h hh
        rw [← efx]
        rw [← efy] at hf
        exact al i hi hf
      | false =>
        cases b with
        | false => rfl
        | true =>
          have z := q.mpr fun i il fyi => by
            have z := hb.mp rfl i (by rw [my, ← efy]; exact fyi)
            rw [mx, ← efx] at z
            exact z
          exact absurd z (of_decide_eq_false e)
    show rRepA _ _ _ _
    refine rep_b ⟨rfl, _, rfl, ?_⟩
    refine ite2 (fun k => ?_) (fun _ => ?_)
    · rw [eb] at k
      exact (ne_self k).elim
    -- the three sets once more
    have hx7 := hx6.same si
    have hy7 := hy6.same si
    obtain ⟨dx7, _, _, cx7, _, _⟩ := id hx7
    have hL7 := si _ _ hL
    have hR7 := si _ _ hR
    have s9 := s8.trans si
    refine ⟨_, rfl, x, dx7, _, rfl, cx7, x, xs.length, ws.length, sizB xs ws, rfl, ⟨xs, ws, hx7, ls, Nat.le_refl _, ⟨1, by rw [Nat.mul_one]⟩, fun _ => rfl⟩, fun Hj z sj tz => ?_⟩
    obtain ⟨row5, er5⟩ : ∃ row, row = rowR (fun i => !fx i) N := ⟨_, rfl⟩
    refine ⟨_, rfl, lL, rfl, ⟨_, SqL.of (sj _ _ hL7)⟩, fun D5 hD5 => ?_⟩
    refine lc_list (K := K) (a := lL) (xs := (rowR fx N).map V.bl) (fun i H' => Same Hj H' ∧ H' D5 = some (.lst ((row5.take i).map V.bl))) ⟨Same.new hD5, upd_same⟩ (fun i H' _ q => SqL.of (q.1 _ _ (sj _ _ hL7))) (fun i v H' hi q => ?_) (fun Hk q => ?_)
    · have il : i < N := by
        have q := (List.getElem?_eq_some_iff.mp hi).1
        rw [List.length_map, rowR_len] at q
        exact q
      obtain rfl := rowV_at il hi
      refine ⟨rfl, ?_⟩
      refine iteT (B := Same Hj H' ∧ H' D5 = some (.lst ((row5.take (i + 1)).map V.bl))) ?_
      exact ⟨_, rfl, _, rfl, row_step q.1 hD5 q.2 (by rw [er5, rowR_at il]) (by rw [er5, rowR_len]; omega)⟩
    rw [List.length_map, rowR_len, List.take_of_length_le (by rw [er5, rowR_len]; omega)] at q
    obtain ⟨sk, d5⟩ := q
    obtain ⟨zs, zg, hz, lz, _, _, mz⟩ := (tz.same sk).ex
    have meets : ∀ {xs gs : List Bool} {f : Nat → Bool}, (∀ h, sizB xs gs h = f h) → ∀ (i : Nat) (b : Bool), (rowR f N)[i]? = some b → sizB xs gs i = b := fun m i b hb => by
      have il : i < N := by
        have q := (List.getElem?_eq_some_iff.mp hb).1
        rw [rowR_len] at q
        exact q
      rw [rowR_at il] at hb
      cases hb
      exact m i
    have sjk := sj.trans sk
    refine ⟨z, D5, zs, zg, row5, rfl, hz, lz, d5, by rw [er5, rowR_len]; omega, by rw [er5]; exact meets fun h => by rw [mz h, mx h, efx], fun Hl sl => ⟨_, rfl, iteT ?_⟩⟩
    have sjl := sjk.trans sl
    refine ⟨_, rfl, _, rfl, x, lL, xs, ws, rowR fx N, rfl, hx7.same sjl, ls, sjl _ _ hL7, by rw [rowR_len]; omega, meets fun h => by rw [mx h, efx], fun Hm sm => ⟨_, rfl, iteT ?_⟩⟩
    have sjm := sjl.trans sm
    refine ⟨_, rfl, _, rfl, y, lR, xs', ws', rowR fy N, rfl, hy7.same sjm, ls', sjm _ _ hR7, by rw [rowR_len]; omega, meets fun h => by rw [my h, efy], fun Hn sn => ?_⟩
    exact fin _ ((s12.trans s9).trans (sjm.trans sn))

end
end Fz
set_option Elab.async false
set_option linter.all false
set_option maxRecDepth 100000
set_option maxHeartbeats 2000000
namespace Fz
open PySem PySem.Spec PyProof.Rows L2
/-- one step of a reading -/
local macro_rules | `(tactic| walk_at "st") => `(tactic| first
  | refine ⟨_, rfl, ?_⟩
  | refine Or.inl ⟨_, rfl, ?_⟩
  | refine Or.inr ⟨_, rfl, ?_⟩
  | refine ⟨_, _, _, _, rfl, rfl, SqL.of (by first | assumption | exact upd_same), rfl, ?_⟩
  | refine ⟨_, _, _, _, rfl, rfl, (by first | assumption | exact upd_same), rfl, ?_⟩
  | refine ⟨_, _, rfl, .inl ⟨_, SqL.of (by first | assumption | exact upd_same), rfl⟩, ?_⟩
  | refine ⟨_, _, rfl, rfl, (show (0 : Int) < _ by first | decide | omega), ?_⟩
  | refine ⟨_, _, rfl, rfl, (show (0 : Int) < _ ∧ _ < _ by first | exact ⟨by decide, by decide⟩ | omega), ?_⟩
  | refine ⟨_, _, rfl, rfl, (show (_ < _ ∧ _ < _) ∨ (_ < _ ∧ _ < _) by first | exact .inl ⟨by decide, by decide⟩ | omega), ?_⟩
  | refine ⟨_, _, rfl, rfl, (show (0 : Int) ≤ _ ∧ _ ≤ _ ∧ _ < _ by first | exact ⟨by decide, by decide, by decide⟩ | exact ⟨by decide, by decide, by omega⟩), ?_⟩
  | refine ⟨_, _, rfl, rfl, ?_⟩)

abbrev s_many : Stmt := topS 35
/-! ### an error of two fields, heard -/
structure PrgM (K : PySem.W.Frag) (mg : Str → Option Value) (CM : Addr) : Prop where
  g_ : mg "TooMany" = some (.ref CM)
  hit : PySem.W.exmOne K (.ref CM) (.ref CM) = some true
  exc : ExcC K CM
  xf : XfC K CM
  fW : PySem.W.findIn K (.ref CM) "what" = some none
  fM : PySem.W.findIn K (.ref CM) "most" = some none
abbrev manyEx (CM : Addr) (Q : VK) : XK := fun cls d H' => cls = .ref CM ∧ ∃ dd : Addr, d = some dd ∧ H' dd = some (.xd [("most", .int 1000), ("what", .str "sizes")]) ∧ ∀ H'', Same H' H'' → Q (.bl true) H''
/-- what is heard is that there are too many -/
def TTm (CM : Addr) : (XK → Hp → VK → Prop) → Hp → VK → Prop := fun tl H Q => tl (manyEx CM Q) H (fun _ _ => False)
section
variable {X : Cx} {CM : Addr}
theorem sc_many : FnScope ["_law_ask", "_law_caught", "error"] ["_law_ask"] (defScope s_many) := ⟨rfl, rfl, rfl, by decide +kernel, rfl, by decide +kernel, by decide +kernel⟩
theorem many_gives {g : Addr} {cdg : Value} {q : Str} (Z : PrgM X.K X.mg CM) (hr : Room 1 X.A) : LamX.GivesTo X ["_law_ask", "_law_caught", "error"] "_law_is_many" (defScope s_many) g cdg (defBody s_many) "_law_ask" q (TTm CM) := by
  intro f c' s H Q tl act hc h
  refine ⟨_, pss_cons (ps_set (i := 1) sc_many.nd rfl (Or.inl rfl) pe_non)
    (pss_cons (ps_tryErr (i := 2) (c := .ref CM) (tb := fun W D σ H => ∃ Ech : XK, (∀ cls d σ' H', Ech cls d H' → W cls d σ' H') ∧ σ[0]? = some (some (.ref f)) ∧ H c' = some (LamX.CodeO c' q) ∧ ∃ Q' : VK, tl Ech H Q' ∧ ∀ x H', Q' x H' → D.nx σ H')
      rfl rfl rfl sc_many.nd rfl rfl ⟨rfl, by decide, .inl Z.g_⟩ LamX.takes0 (fun W pn xe tk own => ?_) (fun p cls d pn => pss_one (ps_set (i := 1) sc_many.nd rfl (Or.inl rfl) (pv 2))))
    (pss_one (ps_ret (pe_and (pe_cmpR op_notN (pv 1) pe_non (nomark _)) (pe_one (pe_cmpR (op_eqD (hr.deeper _).units) (pe_tup (pa_cons (pe_errF (pv 1)) (pa_cons (pe_errF (pv 1)) pa_nil))) (pe_tup (pa_cons pe_str (pa_cons pe_int pa_nil))) (nomark _))))))), ?_⟩
  · refine ⟨fun pins s' σ H' D I h' => ?_⟩
    obtain ⟨Ech, hW, h1, h2, Q', h3, h4⟩ := h'
    have hp := fun p1 p2 => act W pn xe Ech p1 p2 tk hW
    exact (pss_one (ps_expr (pe_weak (hp _ _)))).run pins s' σ H' D I ⟨Q', ⟨h1, h2, h3⟩, h4⟩
  · refine ⟨manyEx CM Q, fun cls d σ' H' hE => ?_, rfl, hc, _, h, fun x H' hx => hx.elim⟩
    obtain ⟨rfl, dd, rfl, hd, fin⟩ := hE
    refine ⟨true, Z.hit, fun _ len a ha => ?_, fun z => by cases z⟩
    match σ', len with
    | [a0, a1, a2], _ =>
      have hd2 : upd H' a (Err (.ref CM) (some dd) a) dd = some (.xd [("most", .int 1000), ("what", .str "sizes")]) := by
        rw [upd_ne (ne_of_none hd ha)]
        exact hd
      have s1 : Same H' (upd H' a (Err (.ref CM) (some dd) a)) := Same.new ha
      refine ⟨_, rfl, ?_⟩
      refine ⟨_, rfl, rfl, _, rfl, iteT ?_⟩
      refine ⟨_, rfl, a, CM, dd, _, .str "sizes", rfl, upd_same, hd2, Z.xf, Z.fW, rfl, ?_⟩
      refine ⟨_, rfl, a, CM, dd, _, .int 1000, rfl, upd_same, hd2, Z.xf, Z.fM, rfl, by show 2 ≤ sizeLine; decide, fun t ht => ?_⟩
      have s2 := Same.new (o := .tup [V.str "sizes", .int 1000]) ht
      refine ⟨by show 2 ≤ sizeLine; decide, fun u hu => ?_⟩
      have s3 := Same.new (o := .tup [V.str "sizes", .int 1000]) hu
      refine ⟨_, _, Dp.tup (SqT.of (s3 _ _ upd_same)) (.cons (.str _) (.cons (.int _) .nil)), Dp.tup (SqT.of upd_same) (.cons (.str _) (.cons (.int _) .nil)), (by decide +kernel), (by decide +kernel), ?_⟩
      have e : PyData.eqv (.tuple [.str "sizes", .int 1000]) (.tuple [.str "sizes", .int 1000]) = true := by decide +kernel
      rw [e]
      exact fin _ ((s1.trans s2).trans s3)
end
theorem SizAt.extN {CS : Addr} {H H' : Hp} {x : Addr} {xs gs : List Bool} (h : SizAt CS H x xs gs) (e : LamX.ExtN H H') : SizAt CS H' x xs gs := by
  obtain ⟨dx, t, u, a, b, c⟩ := h
  exact ⟨dx, t, u, e _ _ a (fun _ q => nomatch q), e _ _ b (fun _ q => nomatch q), e _ _ c (fun _ q => nomatch q)⟩
/-- two sets that cannot be joined -/
def Wide (CS : Addr) (H : Hp) (x y : Addr) : Prop := ∃ xs gs xs' gs', SizAt CS H x xs gs ∧ SizAt CS H y xs' gs' ∧ LeastS xs gs ∧ LeastS xs' gs' ∧ 1000 < max xs.length xs'.length + Nat.lcm gs.length gs'.length
theorem Wide.extN {CS : Addr} {H H' : Hp} {x y : Addr} (h : Wide CS H x y) (e : LamX.ExtN H H') : Wide CS H' x y := by
  obtain ⟨xs, gs, xs', gs', a, b, c⟩ := h
  exact ⟨xs, gs, xs', gs', a.extN e, b.extN e, c⟩
section
variable {CS CM : Addr} {TL : List (Addr × Str)} {σ : L2.St} {H : Hp} {Q : VK} {i j : Nat} {x y : Addr}
theorem heard_bin {op : Bool → Bool → Bool} (tabs : LamX.Tabs TL H) (vi : σ[i]? = some (some (.ref x))) (vj : σ[j]? = some (some (.ref y))) (wide : Wide CS H x y) (fin : ∀ H', LamX.ExtN H H' → LamX.Tabs TL H' → Q (.bl true) H') : Box (LamX.tLam TL (TTm CM) (fun E => tOp (rBinX CS (spBinX CS CM op) E) (tVar i) (tVar j))) σ H Q := by
  refine ⟨tabs, fun H3 e3 tabs3 => ?_⟩
  obtain ⟨xs, gs, xs', gs', hx, hy, ls, ls', w⟩ := wide.extN e3
  obtain ⟨dx, t1, u1, cx, _, _⟩ := id hx
  obtain ⟨dy, t2, u2, cy, _, _⟩ := id hy
  refine ⟨_, vi, _, vj, x, dx, _, y, dy, _, rfl, cx, rfl, cy, x, y, xs, gs, xs', gs', rfl, hx, hy, ls, ls', fun _ dd hd => ⟨rfl, dd, rfl, upd_same, fun H'' s => ?_⟩, fun le => absurd le (by omega)⟩
  have s5 := (Same.new (o := .xd [("most", .int 1000), ("what", .str "sizes")]) hd).trans s
  exact fin H'' (e3.trans (.of s5)) (tabs3.ext s5)
theorem heard_part (tabs : LamX.Tabs TL H) (vi : σ[i]? = some (some (.ref x))) (vj : σ[j]? = some (some (.ref y))) (wide : Wide CS H x y) (fin : ∀ H', LamX.ExtN H H' → LamX.Tabs TL H' → Q (.bl true) H') : Box (LamX.tLam TL (TTm CM) (fun E => tMeth CS "is_part_of" (spPartX CS CM) [] E (tVar i) (tCons (tVar j) tNil))) σ H Q := by
  refine ⟨tabs, fun H3 e3 tabs3 => ?_⟩
  obtain ⟨xs, gs, xs', gs', hx, hy, ls, ls', w⟩ := wide.extN e3
  obtain ⟨dx, t1, u1, cx, _, _⟩ := id hx
  refine ⟨_, vi, x, dx, _, rfl, cx, rfl, _, vj, x, y, xs, gs, xs', gs', rfl, hx, hy, ls, ls', fun _ dd hd => ⟨rfl, dd, rfl, upd_same, fun H'' s => ?_⟩, fun le => absurd le (by omega)⟩
  have s5 := (Same.new (o := .xd [("most", .int 1000), ("what", .str "sizes")]) hd).trans s
  exact fin H'' (e3.trans (.of s5)) (tabs3.ext s5)
end
end Fz
set_option Elab.async false
set_option linter.all false
set_option maxRecDepth 100000
set_option maxHeartbeats 2000000
namespace Fz
open PySem PySem.Spec PyProof.Rows L2
/-- one step of a reading -/
local macro_rules | `(tactic| walk_at "st") => `(tactic| first
  | refine ⟨_, rfl, ?_⟩
  | refine Or.inl ⟨_, rfl, ?_⟩
  | refine Or.inr ⟨_, rfl, ?_⟩
  | refine ⟨_, _, _, _, rfl, rfl, SqL.of (by first | assumption | exact upd_same), rfl, ?_⟩
  | refine ⟨_, _, _, _, rfl, rfl, (by first | assumption | exact upd_same), rfl, ?_⟩
  | refine ⟨_, _, rfl, .inl ⟨_, SqL.of (by first | assumption | exact upd_same), rfl⟩, ?_⟩
  | refine ⟨_, _, rfl, rfl, (show (0 : Int) < _ by first | decide | omega), ?_⟩
  | refine ⟨_, _, rfl, rfl, (show (0 : Int) < _ ∧ _ < _ by first | exact ⟨by decide, by decide⟩ | omega), ?_⟩
  | refine ⟨_, _, rfl, rfl, (show (_ < _ ∧ _ < _) ∨ (_ < _ ∧ _ < _) by first | exact .inl ⟨by decide, by decide⟩ | omega), ?_⟩
  | refine ⟨_, _, rfl, rfl, (show (0 : Int) ≤ _ ∧ _ ≤ _ ∧ _ < _ by first | exact ⟨by decide, by decide, by decide⟩ | exact ⟨by decide, by decide, by omega⟩), ?_⟩
  | refine ⟨_, _, rfl, rfl, ?_⟩)

section
variable {P : Program} {w : World} {K : PySem.W.Frag} {mg : Str → Option Value} {base : Heap}

abbrev s_shr : Stmt := topS 37
theorem sc_shr : FnScope ["_law_both", "_law_size"] [] (defScope s_shr) := ⟨rfl, rfl, rfl, by decide +kernel, rfl, by decide +kernel, by decide +kernel⟩
theorem bin_tells {CS CM : Addr} {H : Hp} {Q : VK} {E : XK} {op : Bool → Bool → Bool} {x y : Addr} {m m' P : Nat} {f g : Nat → Bool} (tx : Tells CS H x 0 m f) (ty : Tells CS H y 0 m' g) (d : m ∣ P) (d' : m' ∣ P) (P1 : 1 ≤ P) (P2 : P ≤ 1000) (fin : ∀ H' z, Same H H' → Tells CS H' z 0 P (fun h => op (f h) (g h)) → Q (.ref z) H') : rBinX CS (spBinX CS CM op) E (.ref x) (.ref y) H Q := by
  obtain ⟨xs, ws, hx, ls, lb, per, mx⟩ := tx.ex
  obtain ⟨xs', ws', hy, ls', lb', per', my⟩ := ty.ex
  have dl : Nat.lcm ws.length ws'.length ∣ P := Nat.lcm_dvd (Nat.dvd_trans (show ws.length ∣ m from per) d) (Nat.dvd_trans (show ws'.length ∣ m' from per') d')
  have le := Nat.le_of_dvd P1 dl
  refine bin_r ⟨hx, hy, ls, ls', by omega⟩ fun H' z s j => fin H' z s ?_
  exact Tells.wide j (by omega) dl fun h => by rw [mx, my]
theorem ne_tells {CS : Addr} {H : Hp} {Q : VK} {x y : Addr} {B P B' P' : Nat} {f g : Nat → Bool} (SC : SizC K CS) (ty : TyC K CS) (tx : Tells CS H x B P f) (tz : Tells CS H y B' P' g) (e : ∀ h, f h = g h) (fin : Q (.bl false) H) : rNeO K CS (spEqS K CS) (.ref x) (.ref y) H Q := by
  obtain ⟨xs, ws, hx, ls, _, _, mx⟩ := tx.ex
  obtain ⟨xs', ws', hy, ls', _, _, my⟩ := tz.ex
  obtain ⟨rfl, rfl⟩ := least_eq ls ls' fun h => by rw [mx, my, e]
  obtain ⟨dx, t1, u1, cx, _, _⟩ := id hx
  obtain ⟨dy, t2, u2, cy, _, _⟩ := id hy
  refine ⟨x, dx, _, .ref CS, rfl, cx, ty.ty SC.cl cy, by simp [PySem.W.notFirst], x, xs, ws, .ref y, rfl, hx, .inl ⟨y, xs, ws, rfl, hy, true, ?_, fin⟩⟩
  rw [decide_eq_true (And.intro rfl rfl)]
/-- behind its begin a set comes again -/
theorem tells_per {xs gs : List Bool} {f : Nat → Bool} {D i : Nat} (m : ∀ h, sizB xs gs h = f h) (d : gs.length ∣ D) (h : xs.length ≤ i) : f (i + D) = f i := by
  obtain ⟨k, rfl⟩ := d
  rw [← m, ← m, sizB_per h]
def bothF : Nat → Bool := fun h => mulF 200 h != mulF 300 h
theorem per_600 {p : Nat} (d : p ∣ 600) (n3 : ¬ p ∣ 300) (n2 : ¬ p ∣ 200) (n1 : ¬ p ∣ 120) : p = 600 := by
  have le := Nat.le_of_dvd (by decide) d
  have all : ∀ q, q < 601 → q ∣ 600 → ¬ q ∣ 300 → ¬ q ∣ 200 → ¬ q ∣ 120 → q = 600 := by decide +kernel
  exact all p (by omega) d n3 n2 n1
def pickN (n : Nat) : List Nat := (List.range n).filter bothF
def pickV (n : Nat) : List V := (pickN n).map fun k => V.int (1 + (k : Nat))
theorem pickV_yes {n : Nat} (h : bothF n = true) : pickV (n + 1) = pickV n ++ [V.int (1 + (n : Nat))] := by
  unfold pickV pickN
  rw [List.range_succ, List.filter_append, List.map_append, List.filter_cons, h]
  rfl
theorem pickV_no {n : Nat} (h : bothF n = false) : pickV (n + 1) = pickV n := by
  unfold pickV pickN
  rw [List.range_succ, List.filter_append, List.map_append, List.filter_cons, h]
  simp
theorem pickV_len (n : Nat) : (pickV n).length ≤ n := by
  unfold pickV pickN
  rw [List.length_map]
  exact Nat.le_trans (List.length_filter_le ..) (Nat.le_of_eq List.length_range)
theorem pickN_all : pickN 1299 = [199, 299, 399, 799, 899, 999] := by decide +kernel
theorem pickV_all : pickV 1299 = [V.int 200, .int 300, .int 400, .int 800, .int 900, .int 1000] := by
  unfold pickV
  rw [pickN_all]
  rfl
def spShr : Sp := fun vs H Q _ => vs = [] ∧ ∀ H', Same H H' → Q (.bl true) H'
theorem ok_shr {CS CM f fMu fEq fPt fCo pMu : Addr} {restMu : List Value} {fd fdMu fdEq fdPt fdCo : FuncData} {fAnd fOr fSub fXor : Addr} {fdAnd fdOr fdSub fdXor : FuncData} (F : Fun K "_law_shared_right" "_law_shared_right" s_shr f fd) (U : Blt mg) (SC : SizC K CS) (ty : TyC K CS) (gSiz : mg "Sizes" = some (.ref CS))
    (firstS : PySem.W.selfFirst K CS = true)
    (oAnd : PySem.W.findIn K (.ref CS) "__and__" = some (some (.ref fAnd))) (iAnd : PySem.W.isFn K (.ref fAnd) = true) (G_And : FnOk P w K mg base (L2.CX P w) 7 fAnd fdAnd ["self", "other"] (spBinX CS CM (fun mine yours => mine && yours))) (bAnd : L2.Binds K fdAnd ["self", "other"] [])
    (oOr : PySem.W.findIn K (.ref CS) "__or__" = some (some (.ref fOr))) (iOr : PySem.W.isFn K (.ref fOr) = true) (G_Or : FnOk P w K mg base (L2.CX P w) 7 fOr fdOr ["self", "other"] (spBinX CS CM (fun mine yours => mine || yours))) (bOr : L2.Binds K fdOr ["self", "other"] [])
    (oSub : PySem.W.findIn K (.ref CS) "__sub__" = some (some (.ref fSub))) (iSub : PySem.W.isFn K (.ref fSub) = true) (G_Sub : FnOk P w K mg base (L2.CX P w) 7 fSub fdSub ["self", "other"] (spBinX CS CM (fun mine yours => mine && !yours))) (bSub : L2.Binds K fdSub ["self", "other"] [])
    (oXor : PySem.W.findIn K (.ref CS) "__xor__" = some (some (.ref fXor))) (iXor : PySem.W.isFn K (.ref fXor) = true) (G_Xor : FnOk P w K mg base (L2.CX P w) 7 fXor fdXor ["self", "other"] (spBinX CS CM (fun mine yours => mine != yours))) (bXor : L2.Binds K fdXor ["self", "other"] [])
    (rdS : ClX.CRead K CS (.type "type")) (smS : PySem.W.findCls K (.ref CS) (.type "type") "multiples" = some (.get (.builtin "staticmethod.__get__") (.ref pMu) .none (.ref CS))) (recS : PySem.W.recIn K pMu "staticmethod" = some (.ref fMu :: restMu)) (keepMu : PySem.W.keepIn K (.ref fMu) = true) (G_mul : FnOk P w K mg base CX0 6 fMu fdMu ["m"] (spMul CS)) (b_mul : L2.Binds K fdMu ["m"] [])
    (oEq : PySem.W.findIn K (.ref CS) "__eq__" = some (some (.ref fEq))) (iEq : PySem.W.isFn K (.ref fEq) = true) (G_eqS : FnOk P w K mg base CX0 1 fEq fdEq ["self", "other"] (spEqS K CS)) (bEq : L2.Binds K fdEq ["self", "other"] [])
    (neCS : PySem.W.findIn K (.ref CS) "__ne__" = some (some (.builtin "object.__ne__"))) (hmCS : PySem.W.mroIn K CS (.type "object") = some true)
    (Mpt : Meth K CS "is_part_of" fPt) (G_part : FnOk P w K mg base (L2.CX P w) 9 fPt fdPt ["self", "other"] (spPartX CS CM)) (b_part : L2.Binds K fdPt ["self", "other"] [])
    (oCo : PySem.W.findIn K (.ref CS) "__contains__" = some (some (.ref fCo))) (iCo : PySem.W.isFn K (.ref fCo) = true) (G_coS : FnOk P w K mg base CX0 2 fCo fdCo ["self", "x"] (spCoS K CS)) (bCo : L2.Binds K fdCo ["self", "x"] []) : FnOk P w K mg base CX0 10 f fd [] spShr := by
  refine F.ok sc_shr (fun vs H Q E h => ?_) (fun cdv A outer s H vs Q E hr h => ?_)
  · obtain ⟨rfl, _⟩ := h
    rfl
  · obtain ⟨rfl, fin⟩ := h
    refine ⟨_, (pss_cons (ps_if (pt_cmpR (op_neO oEq iEq neCS hmCS G_eqS bEq (hr.mono (by decide))) (pe_op (op_binX firstS oAnd iAnd G_And bAnd (hr.mono (by decide)) (passes_call LamX.takes0 (fun _ _ _ _ h => h))) (pe_static (pe_glob (v := .ref _) rfl gSiz rfl) rdS smS recS G_mul (hr.mono (by decide)) keepMu b_mul pass0 (by exact (pa_cons pe_int pa_nil))) (pe_static (pe_glob (v := .ref _) rfl gSiz rfl) rdS smS recS G_mul (hr.mono (by decide)) keepMu b_mul pass0 (by exact (pa_cons pe_int pa_nil)))) (pe_static (pe_glob (v := .ref _) rfl gSiz rfl) rdS smS recS G_mul (hr.mono (by decide)) keepMu b_mul pass0 (by exact (pa_cons pe_int pa_nil))) (nomark _)) (pss_one (ps_ret pe_bl)) pss_nil)
  (pss_cons (ps_if (pt_cmpR (op_neO oEq iEq neCS hmCS G_eqS bEq (hr.mono (by decide))) (pe_op (op_binX firstS oOr iOr G_Or bOr (hr.mono (by decide)) (passes_call LamX.takes0 (fun _ _ _ _ h => h))) (pe_static (pe_glob (v := .ref _) rfl gSiz rfl) rdS smS recS G_mul (hr.mono (by decide)) keepMu b_mul pass0 (by exact (pa_cons pe_int pa_nil))) (pe_static (pe_glob (v := .ref _) rfl gSiz rfl) rdS smS recS G_mul (hr.mono (by decide)) keepMu b_mul pass0 (by exact (pa_cons pe_int pa_nil)))) (pe_static (pe_glob (v := .ref _) rfl gSiz rfl) rdS smS recS G_mul (hr.mono (by decide)) keepMu b_mul pass0 (by exact (pa_cons pe_int pa_nil))) (nomark _)) (pss_one (ps_ret pe_bl)) pss_nil)
  (pss_cons (ps_set (i := 0) sc_shr.nd rfl (Or.inr rfl) (pe_op (op_binX firstS oXor iXor G_Xor bXor (hr.mono (by decide)) (passes_call LamX.takes0 (fun _ _ _ _ h => h))) (pe_static (pe_glob (v := .ref _) rfl gSiz rfl) rdS smS recS G_mul (hr.mono (by decide)) keepMu b_mul pass0 (by exact (pa_cons pe_int pa_nil))) (pe_static (pe_glob (v := .ref _) rfl gSiz rfl) rdS smS recS G_mul (hr.mono (by decide)) keepMu b_mul pass0 (by exact (pa_cons pe_int pa_nil)))))
  (pss_cons (ps_if (pt_cmpR (op_neD hr.units) (pe_lc (own := [("_law_size", 1)]) rfl sc_shr.nd (pi_range2 rfl U.z_range (by exact (pa_cons pe_int (pa_cons pe_int pa_nil)))) (blkOk_by (by kernel_rfl)) (fun s_ H_ C_ cl_ fp_ => (pg_name (i := 1) sc_shr.nd rfl (Or.inl rfl))) (fun s_ H_ C_ cl_ fp_ => (pts_one (pt_cmpR (show OpR _ (compareOp .In) (rInO CS (spCoS K CS)) from op_inO oCo iCo G_coS bCo (hr.mono (by decide))) (pv 1) (pv 0) (by rfl)))) (fun s_ H_ C_ cl_ fp_ => (pv 1))) (pe_lst (pa_cons pe_int (pa_cons pe_int (pa_cons pe_int (pa_cons pe_int (pa_cons pe_int (pa_cons pe_int pa_nil))))))) (nomark _)) (pss_one (ps_ret pe_bl)) pss_nil)
  (pss_one (ps_ret (pe_and (pe_cmpR (op_eqD hr.units) (pe_lst (pa_cons (pe_callB call_len rfl U.z_len (by decide +kernel) (pa_cons (pe_fld (pv 0) rfl) pa_nil)) (pa_cons (pe_callB call_len rfl U.z_len (by decide +kernel) (pa_cons (pe_fld (pv 0) rfl) pa_nil)) pa_nil))) (pe_lst (pa_cons pe_int (pa_cons pe_int pa_nil))) (nomark _)) (pe_one (pe_meth (pe_static (pe_glob (v := .ref _) rfl gSiz rfl) rdS smS recS G_mul (hr.mono (by decide)) keepMu b_mul pass0 (by exact (pa_cons pe_int pa_nil))) SC.cl Mpt G_part (hr.mono (by decide)) b_part .nil (passes_call LamX.takes0 (fun _ _ _ _ h => h)) (by exact (pa_cons (pe_static (pe_glob (v := .ref _) rfl gSiz rfl) rdS smS recS G_mul (hr.mono (by decide)) keepMu b_mul pass0 (by exact (pa_cons pe_int pa_nil))) pa_nil))))))))))), ?_⟩
    have sz : (2000000 : Nat) ≤ sizeLine := by show 2000000 ≤ 16777216; decide
    -- 40 and 60
    refine ⟨rfl, (40 : Nat), rfl, by decide, by decide, fun H1 x1 s1 t1 => ?_⟩
    refine ⟨rfl, (60 : Nat), rfl, by decide, by decide, fun H2 x2 s2 t2 => ?_⟩
    refine bin_tells (t1.same s2) t2 (P := 120) (by decide) (by decide) (by decide) (by decide) fun H3 x3 s3 t3 => ?_
    refine ⟨rfl, (120 : Nat), rfl, by decide, by decide, fun H4 x4 s4 t4 => ?_⟩
    refine ne_tells SC ty (t3.same s4) t4 (fun h => ?_) ⟨_, rfl, iteF ?_⟩
    · show (decide ((h + 1) % 40 = 0) && decide ((h + 1) % 60 = 0)) = decide ((h + 1) % 120 = 0)
      by_cases a : (h + 1) % 40 = 0 <;> by_cases b : (h + 1) % 60 = 0 <;> by_cases c : (h + 1) % 120 = 0 <;> simp [a, b, c] <;> omega
    have m1 := ((s1.trans s2).trans s3).trans s4
    -- 400 and 200
    refine ⟨rfl, (400 : Nat), rfl, by decide, by decide, fun H5 x5 s5 t5 => ?_⟩
    refine ⟨rfl, (200 : Nat), rfl, by decide, by decide, fun H6 x6 s6 t6 => ?_⟩
    refine bin_tells (t5.same s6) t6 (P := 400) (by decide) (by decide) (by decide) (by decide) fun H7 x7 s7 t7 => ?_
    refine ⟨rfl, (200 : Nat), rfl, by decide, by decide, fun H8 x8 s8 t8 => ?_⟩
    refine ne_tells SC ty (t7.same s8) t8 (fun h => ?_) ⟨_, rfl, iteF ?_⟩
    · show (decide ((h + 1) % 400 = 0) || decide ((h + 1) % 200 = 0)) = decide ((h + 1) % 200 = 0)
      by_cases a : (h + 1) % 400 = 0 <;> by_cases b : (h + 1) % 200 = 0 <;> simp [a, b] <;> omega
    have m2 := m1.trans (((s5.trans s6).trans s7).trans s8)
    clear m1 s1 s2 s3 s4 s5 s6 s7 s8 t1 t2 t3 t4 t5 t6 t7 t8
    -- 200 and 300
    refine ⟨rfl, (200 : Nat), rfl, by decide, by decide, fun H1 x1 s1 t1 => ?_⟩
    refine ⟨rfl, (300 : Nat), rfl, by decide, by decide, fun H2 x2 s2 t2 => ?_⟩
    refine bin_tells (t1.same s2) t2 (P := 600) (by decide) (by decide) (by decide) (by decide) fun H3 z s3 tz => ?_
    have m3 := m2.trans ((s1.trans s2).trans s3)
    obtain ⟨zs, zg, hz, lz, lb, per, mz⟩ := tz.ex
    replace mz : ∀ h, sizB zs zg h = bothF h := mz
    obtain ⟨w1, few⟩ := lz.len
    obtain ⟨dz, tz1, uz1, cz, ctz, cuz⟩ := id hz
    have z0 : zs.length = 0 := by omega
    have z6 : zg.length = 600 := by
      have no : ∀ D i, bothF (i + D) ≠ bothF i → ¬ zg.length ∣ D := fun D i ne d => ne (tells_per mz d (by omega))
      exact per_600 per (no 300 199 (by decide +kernel)) (no 200 299 (by decide +kernel)) (no 120 199 (by decide +kernel))
    clear s1 s2 s3 t1 t2 m2
    refine ⟨1, 1300, rfl, ⟨by decide, by decide, by decide, by decide⟩, fun D hD => ?_⟩
    have en : ((1300 : Int) - 1).toNat = 1299 := by decide
    rw [en]
    refine lc_range (lo := 1) (n := 1299) (fun i H' => Same H3 H' ∧ H' D = some (.lst (pickV i))) ⟨Same.new hD, upd_same⟩ (fun i H' hi q => ?_) (fun H4 q => ?_)
    · have hz2 := hz.same q.1
      obtain ⟨d2, t2, u2, c2, _, _⟩ := id hz2
      refine ⟨rfl, ?_⟩
      refine ⟨_, rfl, _, rfl, z, d2, _, rfl, c2, z, zs, zg, _, rfl, hz2, w1, by omega, it_int, _, rfl, _, rfl, ?_⟩
      have ev : hasB zs zg (.int (1 + (i : Nat))) = bothF i := by
        rw [← mz]
        show (decide ((1 : Int) ≤ 1 + (i : Nat)) && sizB zs zg (1 + ((i : Nat) : Int) - 1).toNat) = _
        rw [decide_eq_true (by omega), show (1 + ((i : Nat) : Int) - 1).toNat = i by omega]
        rfl
      rw [ev]
      refine ite2 (fun c => ?_) (fun c => ?_)
      · refine ⟨_, rfl, _, q.2, Nat.lt_of_le_of_lt (pickV_len i) (by show i < 16777216; omega), fun b o e => ?_, ?_⟩
        · have nb : b ≠ D := fun z => by rw [z, hD] at e; cases e
          rw [upd_ne nb]
          exact q.1 b o e
        · rw [upd_same, pickV_yes c]
      · exact ⟨q.1, by rw [pickV_no (Bool.eq_false_iff.mpr c)]; exact q.2⟩
    rw [pickV_all] at q
    obtain ⟨s4, hd4⟩ := q
    refine ⟨by show 6 ≤ sizeLine; omega, fun l hl => ?_⟩
    have s5 := Same.new (o := .lst [V.int 200, .int 300, .int 400, .int 800, .int 900, .int 1000]) hl
    have dl : ∀ {a : Addr} {Hx : Hp}, Hx a = some (.lst [V.int 200, .int 300, .int 400, .int 800, .int 900, .int 1000]) → Dp K Hx (.ref a) (.list [.int 200, .int 300, .int 400, .int 800, .int 900, .int 1000]) := fun h => Dp.lst (SqL.of h) (.cons (.int _) (.cons (.int _) (.cons (.int _) (.cons (.int _) (.cons (.int _) (.cons (.int _) .nil))))))
    refine ⟨_, _, dl (s5 _ _ hd4), dl upd_same, by decide +kernel, by decide +kernel, ?_⟩
    have e1 : PyData.eqv (.list [.int 200, .int 300, .int 400, .int 800, .int 900, .int 1000]) (.list [.int 200, .int 300, .int 400, .int 800, .int 900, .int 1000]) = true := by decide +kernel
    rw [e1]
    refine ⟨_, rfl, iteF ?_⟩
    have s35 := s4.trans s5
    have hz5 := hz.same s35
    obtain ⟨d5, t5, u5, c5, ct5, cu5⟩ := id hz5
    have ln : ∀ {H' : Hp} {t : Addr} {bs : List Bool}, H' t = some (.tup (bs.map V.bl)) → LenV K (.ref t) H' bs.length := fun {H' t bs} h => by
      have q := SeqAt2.len (K := K) (SqB.ii (t := true) (show SqB true H' t (bs.map V.bl) from h))
      rw [List.length_map] at q
      exact q
    have l0 : LenV K (.ref t5) (upd H4 l (.lst [V.int 200, .int 300, .int 400, .int 800, .int 900, .int 1000])) 0 := z0 ▸ ln ct5
    have l6 : LenV K (.ref u5) (upd H4 l (.lst [V.int 200, .int 300, .int 400, .int 800, .int 900, .int 1000])) 600 := z6 ▸ ln cu5
    refine ⟨_, rfl, z, CS, d5, _, _, rfl, c5, SC.cl, SC.nAhead, sfs_a _ _, _, _, rfl, l0, _, rfl, z, CS, d5, _, _, rfl, c5, SC.cl, SC.nAgain, sfs_g _ _, _, _, rfl, l6, by show 2 ≤ sizeLine; omega, fun l1 hl1 => ?_⟩
    have s6 := Same.new (o := .lst [V.int (0 : Nat), .int (600 : Nat)]) hl1
    refine ⟨by show 2 ≤ sizeLine; omega, fun l2 hl2 => ?_⟩
    have s7 := Same.new (o := .lst [V.int 0, .int 600]) hl2
    refine ⟨_, _, Dp.lst (SqL.of (s7 _ _ upd_same)) (.cons (.int _) (.cons (.int _) .nil)), Dp.lst (SqL.of upd_same) (.cons (.int _) (.cons (.int _) .nil)), by decide +kernel, by decide +kernel, ?_⟩
    have e2 : PyData.eqv (.list [.int ((0 : Nat) : Int), .int ((600 : Nat) : Int)]) (.list [.int 0, .int 600]) = true := by decide +kernel
    rw [e2]
    refine ⟨_, rfl, iteT ?_⟩
    refine ⟨rfl, (360 : Nat), rfl, by decide, by decide, fun H7 x7 s8 t7 => ?_⟩
    obtain ⟨xs, ws, hx, ls, xb, xp, mx⟩ := t7.ex
    obtain ⟨dx, _, _, cx, _, _⟩ := id hx
    refine ⟨x7, dx, _, rfl, cx, rfl, rfl, (90 : Nat), rfl, by decide, by decide, fun H8 x8 s9 t8 => ?_⟩
    obtain ⟨xs', ws', hy, ls', yb, yp, my⟩ := t8.ex
    have le : max xs.length xs'.length + Nat.lcm ws.length ws'.length ≤ 1000 := by
      have d : Nat.lcm ws.length ws'.length ∣ 360 := Nat.lcm_dvd xp (Nat.dvd_trans (show ws'.length ∣ 90 from yp) (by decide))
      have q := Nat.le_of_dvd (by decide) d
      omega
    refine ⟨x7, x8, xs, ws, xs', ws', rfl, hx.same s9, hy, ls, ls', fun z => absurd z (by omega), fun _ H9 b s10 hb => ?_⟩
    have eb : b = true := hb.mpr fun h hh => by
      rw [mx] at hh
      rw [my]
      have q : (h + 1) % 360 = 0 := of_decide_eq_true hh
      exact decide_eq_true (show (h + 1) % 90 = 0 by omega)
    rw [eb]
    exact fin _ (m3.trans (s35.trans (s6.trans (s7.trans (s8.trans (s9.trans s10))))))

end
end Fz
set_option Elab.async false
set_option linter.all false
set_option maxRecDepth 100000
set_option maxHeartbeats 2000000
namespace Fz
open PySem PySem.Spec PyProof.Rows L2
/-- one step of a reading -/
local macro_rules | `(tactic| walk_at "st") => `(tactic| first
  | refine ⟨_, rfl, ?_⟩
  | refine Or.inl ⟨_, rfl, ?_⟩
  | refine Or.inr ⟨_, rfl, ?_⟩
  | refine ⟨_, _, _, _, rfl, rfl, SqL.of (by first | assumption | exact upd_same), rfl, ?_⟩
  | refine ⟨_, _, _, _, rfl, rfl, (by first | assumption | exact upd_same), rfl, ?_⟩
  | refine ⟨_, _, rfl, .inl ⟨_, SqL.of (by first | assumption | exact upd_same), rfl⟩, ?_⟩
  | refine ⟨_, _, rfl, rfl, (show (0 : Int) < _ by first | decide | omega), ?_⟩
  | refine ⟨_, _, rfl, rfl, (show (0 : Int) < _ ∧ _ < _ by first | exact ⟨by decide, by decide⟩ | omega), ?_⟩
  | refine ⟨_, _, rfl, rfl, (show (_ < _ ∧ _ < _) ∨ (_ < _ ∧ _ < _) by first | exact .inl ⟨by decide, by decide⟩ | omega), ?_⟩
  | refine ⟨_, _, rfl, rfl, (show (0 : Int) ≤ _ ∧ _ ≤ _ ∧ _ < _ by first | exact ⟨by decide, by decide, by decide⟩ | exact ⟨by decide, by decide, by omega⟩), ?_⟩
  | refine ⟨_, _, rfl, rfl, ?_⟩)

abbrev s_bnd : Stmt := topS 36
abbrev lamB : Str := (envOfC "_law_bounds_right" (defScope s_bnd) 0 0 .none).qual ++ "<lambda>"
section
variable {P : Program} {w : World} {K : PySem.W.Frag} {mg : Str → Option Value} {base : Heap}

theorem sc_bnd : FnScope ["_law_pen_here", "_law_wheels", "_law_both", "_law_whole", "_law_told", "_law_long_so", "_law_near", "_law_far", "_law_longer", "_law_many", "_law_k"] ["_law_pen_here"] (defScope s_bnd) := ⟨rfl, rfl, rfl, by decide +kernel, rfl, by decide +kernel, by decide +kernel⟩
/-! ### wheels -/
def wheelW (k : Nat) : List Bool := (List.range k).map fun i => decide (V.int (0 + (i : Nat)) = V.int 0)
theorem wheelW_len (k : Nat) : (wheelW k).length = k := by unfold wheelW; rw [List.length_map, List.length_range]
theorem wheelW_at {k i : Nat} (h : i < k) : (wheelW k)[i]? = some (decide (i = 0)) := by
  unfold wheelW
  rw [List.getElem?_map, List.getElem?_range h]
  show some (decide (V.int (0 + (i : Nat)) = V.int 0)) = _
  congr 1
  refine decide_eq_decide.mpr ⟨fun z => ?_, fun z => ?_⟩
  · have q := V.int.inj z
    omega
  · rw [z]
    rfl
theorem wheel_at {as : List Bool} {k h : Nat} (k1 : 1 ≤ k) (a : as.length ≤ h) : atB (as ++ wheelW k) as.length k h = decide ((h - as.length) % k = 0) := by
  have m := Nat.mod_lt (h - as.length) (show k > 0 by omega)
  unfold atB
  rw [if_neg (by omega), List.getD_eq_getElem?_getD, List.getElem?_append_right (by omega), show as.length + (h - as.length) % k - as.length = (h - as.length) % k by omega, wheelW_at m]
  rfl
theorem zi_ne : zi true ≠ zi false := fun z => by have q := zi_inj z; cases q
theorem wheel_form {as : List Bool} {k : Nat} (k2 : 2 ≤ k) (low : as = [] ∨ ∃ r, as = r ++ [true]) : Form (atW (bz (as ++ wheelW k)) as.length k) as.length k := by
  refine ⟨by omega, fun i h => atW_per1 h, fun s c s1 h => ?_, ?_⟩
  · have i0 : c ≤ as.length + k * c := Nat.le_trans (Nat.le_mul_of_pos_left c (by omega)) (Nat.le_add_left ..)
    have q := h _ i0
    rw [atW_bz, atW_bz, wheel_at (by omega) (by omega), wheel_at (by omega) (by omega), show as.length + k * c - as.length = k * c by omega, Nat.mul_mod_right, show as.length + k * c + s - as.length = k * c + s by omega, Nat.mul_add_mod] at q
    by_cases z : s % k = 0
    · exact Nat.le_of_dvd s1 (Nat.dvd_of_mod_eq_zero z)
    · rw [decide_eq_false z] at q
      exact absurd q.symm zi_ne
  · rcases low with rfl | ⟨r, rfl⟩
    · exact .inl rfl
    · refine .inr ?_
      have l : (r ++ [true]).length = r.length + 1 := by rw [List.length_append]; rfl
      rw [atW_bz, atW_bz, wheel_at (by omega) (by omega), show (r ++ [true]).length - 1 + k - (r ++ [true]).length = k - 1 by omega, Nat.mod_eq_of_lt (by omega), decide_eq_false (by omega)]
      have e : atB ((r ++ [true]) ++ wheelW k) (r ++ [true]).length k ((r ++ [true]).length - 1) = true := by
        unfold atB
        rw [if_pos (by omega), List.getD_eq_getElem?_getD, List.getElem?_append_left (by omega), l, Nat.add_sub_cancel, List.getElem?_append_right (Nat.le_refl _), Nat.sub_self]
        rfl
      rw [e]
      exact fun z => zi_ne z.symm
/-- a set of this very form -/
def Whl (CS : Addr) (H : Hp) (x : Addr) (as : List Bool) (k : Nat) : Prop := ∃ xs gs, SizAt CS H x xs gs ∧ LeastS xs gs ∧ xs.length = as.length ∧ gs.length = k ∧ ∀ h, sizB xs gs h = sizB as (wheelW k) h
theorem Whl.same {CS : Addr} {H H' : Hp} {x : Addr} {as : List Bool} {k : Nat} (h : Whl CS H x as k) (s : Same H H') : Whl CS H' x as k := let ⟨xs, gs, a, b⟩ := h; ⟨xs, gs, a.same s, b⟩
theorem Whl.mv {CS : Addr} {H H' : Hp} {x p q : Addr} {n : Nat} {as : List Bool} {k : Nat} (h : Whl CS H x as k) (pen : PenAt n H p q) (m : Mv p H H') : Whl CS H' x as k := let ⟨xs, gs, a, b⟩ := h; ⟨xs, gs, a.mv pen m, b⟩
theorem Whl.extN {CS : Addr} {H H' : Hp} {x : Addr} {as : List Bool} {k : Nat} (h : Whl CS H x as k) (s : LamX.ExtN H H') : Whl CS H' x as k := let ⟨xs, gs, a, b⟩ := h; ⟨xs, gs, a.extN s, b⟩
theorem whl_made {CS : Addr} {H : Hp} {x : Addr} {as : List Bool} {k b p : Nat} (k2 : 2 ≤ k) (low : as = [] ∨ ∃ r, as = r ++ [true]) (f : Form (atW (bz (as ++ wheelW k)) as.length (wheelW k).length) b p) (few : as.length + k ≤ 1000)
    (at_ : SizAt CS H x (boolsW (as ++ wheelW k) as.length (wheelW k).length b) (ringW (as ++ wheelW k) as.length (wheelW k).length b p)) : Whl CS H x as k := by
  have kl := wheelW_len k
  rw [kl] at f at_
  obtain ⟨rfl, rfl⟩ := f.uniq (wheel_form k2 low)
  refine ⟨_, _, at_, ⟨_, _, _, _, _, f, rfl, rfl, few⟩, boolsW_len .., ring_len .., fun h => ?_⟩
  have e := sizB_app (xs := as) (gs := wheelW p) (by rw [kl]; omega) h
  rw [kl] at e
  rw [siz_form f, e]
theorem Whl.wide {CS : Addr} {H : Hp} {x y : Addr} {as bs : List Bool} {k m : Nat} (a : Whl CS H x as k) (b : Whl CS H y bs m) (w : 1000 < max as.length bs.length + Nat.lcm k m) : Wide CS H x y := by
  obtain ⟨xs, gs, hx, lx, e1, e2, _⟩ := a
  obtain ⟨ys, hs, hy, ly, e3, e4, _⟩ := b
  exact ⟨xs, gs, ys, hs, hx, hy, lx, ly, by rw [e1, e2, e3, e4]; exact w⟩
def pre (k : Nat) : List Bool := List.replicate k false ++ [true]
theorem pre_low (k : Nat) : pre k = [] ∨ ∃ r, pre k = r ++ [true] := .inr ⟨_, rfl⟩
def unionF : Nat → Bool := fun h => sizB (pre 7) (wheelW 31) h || sizB [] (wheelW 32) h
theorem per_992 {p : Nat} (d : p ∣ 992) (n1 : ¬ p ∣ 496) (n2 : ¬ p ∣ 32) : p = 992 := by
  have le := Nat.le_of_dvd (by decide) d
  have all : ∀ q, q < 993 → q ∣ 992 → ¬ q ∣ 496 → ¬ q ∣ 32 → q = 992 := by decide +kernel
  exact all p (by omega) d n1 n2
/-- a list of what was heard at td, made behind H0 -/
structure HeardAt (TL : List (Addr × Str)) (H0 : Hp) (td : Addr) (ys : List V) (H : Hp) : Prop where
  fresh : ∀ b o, H0 b = some o → (∀ ps, o ≠ .tbl ps) → b ≠ td
  ext : LamX.ExtN H0 H
  tabs : LamX.Tabs TL H
  at_ : H td = some (.lst ys)
theorem HeardAt.first {TL : List (Addr × Str)} {H0 H : Hp} {td : Addr} {y : V} (e : LamX.ExtN H0 H) (t : LamX.Tabs TL H) (n : H td = none) : HeardAt TL H0 td [y] (upd H td (.lst [y])) :=
  ⟨(fun b o h nt z => by
    have q := e b o h nt
    rw [z, n] at q
    cases q), e.trans (.of (Same.new n)), t.ext (Same.new n), upd_same⟩
theorem HeardAt.app {TL : List (Addr × Str)} {H0 H H' : Hp} {td : Addr} {ys : List V} {y : V} (h : HeardAt TL H0 td ys H) (e : LamX.ExtN H H') (t : LamX.Tabs TL H') : H' td = some (.lst ys) ∧ HeardAt TL H0 td (ys ++ [y]) (upd H' td (.lst (ys ++ [y]))) := by
  have a := e _ _ h.at_ (fun _ z => nomatch z)
  refine ⟨a, h.fresh, fun b o q nt => ?_, tabs_mv a Mv.here t, upd_same⟩
  rw [upd_ne (h.fresh b o q nt)]
  exact (h.ext.trans e) b o q nt
def spBnd (TL : List (Addr × Str)) : Sp := fun vs H Q _ => ∃ (n : Nat) (p q : Addr), vs = [.ref p] ∧ PenAt n H p q ∧ n < 95000 ∧ LamX.Tabs TL H ∧ ∀ H', Q (.bl true) H'
theorem ok_bnd {TL : List (Addr × Str)} {CS CM f fSi fCo fPt fD fP fMa fShr c Pt : Addr} {fd fdSi fdCo fdPt fdD fdP fdMa fdShr : FuncData} {fAnd fOr fSub fXor : Addr} {fdAnd fdOr fdSub fdXor : FuncData} (F : Fun K "_law_bounds_right" "_law_bounds_right" s_bnd f fd) (code : fd.code = .ref c) (TB : LamX.TabB base mg c Pt) (mT : (Pt, lamB) ∈ TL) (uT : ∀ p ∈ TL, p.1 = Pt → p.2 = lamB)
    (U : Blt mg) (SC : SizC K CS) (ty : TyC K CS) (gSiz : mg "Sizes" = some (.ref CS)) (Z : PrgM K mg CM) (D : Fun K "_law_draw" "_law_draw" s_draw fD fdD) (gD : mg "_law_draw" = some (.ref fD)) (b_draw : L2.Binds K fdD ["_law_pen_here", "_law_many"] [])
    (Pk : Fun K "_law_pick" "_law_pick" s_pick fP fdP) (gP : mg "_law_pick" = some (.ref fP)) (b_pick : L2.Binds K fdP ["_law_pen_here", "_law_some"] [])
    (Ma : Fun K "_law_is_many" "_law_is_many" s_many fMa fdMa) (gMa : mg "_law_is_many" = some (.ref fMa)) (b_many0 : L2.Binds K fdMa ["_law_ask"] [])
    (Shr : Fun K "_law_shared_right" "_law_shared_right" s_shr fShr fdShr) (gShr : mg "_law_shared_right" = some (.ref fShr)) (b_shr : L2.Binds K fdShr [] []) (G_shr : FnOk P w K mg base CX0 10 fShr fdShr [] spShr)
    (firstS : PySem.W.selfFirst K CS = true)
    (oAnd : PySem.W.findIn K (.ref CS) "__and__" = some (some (.ref fAnd))) (iAnd : PySem.W.isFn K (.ref fAnd) = true) (G_And : FnOk P w K mg base (L2.CX P w) 7 fAnd fdAnd ["self", "other"] (spBinX CS CM (fun mine yours => mine && yours))) (bAnd : L2.Binds K fdAnd ["self", "other"] [])
    (oOr : PySem.W.findIn K (.ref CS) "__or__" = some (some (.ref fOr))) (iOr : PySem.W.isFn K (.ref fOr) = true) (G_Or : FnOk P w K mg base (L2.CX P w) 7 fOr fdOr ["self", "other"] (spBinX CS CM (fun mine yours => mine || yours))) (bOr : L2.Binds K fdOr ["self", "other"] [])
    (oSub : PySem.W.findIn K (.ref CS) "__sub__" = some (some (.ref fSub))) (iSub : PySem.W.isFn K (.ref fSub) = true) (G_Sub : FnOk P w K mg base (L2.CX P w) 7 fSub fdSub ["self", "other"] (spBinX CS CM (fun mine yours => mine && !yours))) (bSub : L2.Binds K fdSub ["self", "other"] [])
    (oXor : PySem.W.findIn K (.ref CS) "__xor__" = some (some (.ref fXor))) (iXor : PySem.W.isFn K (.ref fXor) = true) (G_Xor : FnOk P w K mg base (L2.CX P w) 7 fXor fdXor ["self", "other"] (spBinX CS CM (fun mine yours => mine != yours))) (bXor : L2.Binds K fdXor ["self", "other"] [])
    (MkS : Mk K CS fSi) (b_si : L2.Binds K fdSi ["self", "ahead", "again"] []) (G_si : FnOk P w K mg base CX0 4 fSi fdSi ["self", "ahead", "again"] (spSizes CS))
    (Mpt : Meth K CS "is_part_of" fPt) (G_part : FnOk P w K mg base (L2.CX P w) 9 fPt fdPt ["self", "other"] (spPartX CS CM)) (b_part : L2.Binds K fdPt ["self", "other"] [])
    (oCo : PySem.W.findIn K (.ref CS) "__contains__" = some (some (.ref fCo))) (iCo : PySem.W.isFn K (.ref fCo) = true) (G_coS : FnOk P w K mg base CX0 2 fCo fdCo ["self", "x"] (spCoS K CS)) (bCo : L2.Binds K fdCo ["self", "x"] []) : FnG P w K mg base CX0 14 f fd ["_law_pen_here"] (spBnd TL) := by
  have G_pick : FnOk P w K mg base CX0 2 fP fdP ["_law_pen_here", "_law_some"] (spPick K) := ok_pick Pk U D gD b_draw
  obtain ⟨oc, od, kV, doc, pm, an, cdvM, ct, osl, rfl, lkM, codeM⟩ := Ma.ex
  have b_many := b_many0
  refine funG F sc_bnd (fun vs H Q E h => ?_) (fun cdv A outer s H vs Q E hcdv hr hg h => ?_)
  · obtain ⟨n, p, q, rfl, _⟩ := h
    rfl
  · obtain ⟨n, p, q, rfl, hp, hn, tabs, fin⟩ := h
    obtain rfl : cdv = _ := hcdv.symm.trans code
    have hcode : ∀ {X : Cx} {c : Addr}, X.env.code = .ref c → X.env.code = .ref c := id
    refine ⟨_, (C8.pss_cut (ps_setLc (i := 1) (own := [("_law_many", 9)]) rfl sc_bnd.nd rfl rfl (sw_true rfl rfl rfl (by decide +kernel)) (pi_tup (pe_tup (pa_cons pe_int (pa_cons pe_int (pa_cons pe_int pa_nil))))) (blkOk_by (by kernel_rfl)) (fun s_ H_ C_ cl_ fp_ => (pg_name (i := 9) sc_bnd.nd rfl (Or.inl rfl))) (fun s_ H_ C_ cl_ fp_ => pts_nil) (fun s_ H_ C_ cl_ fp_ => (pe_lc (own := [("_law_k", 10)]) rfl sc_bnd.nd (pi_range1 rfl U.z_range (by exact (pa_cons (pv 9) pa_nil))) (blkOk_by (by kernel_rfl)) (fun s_ H_ C_ cl_ fp_ => (pg_name (i := 10) sc_bnd.nd rfl (Or.inl rfl))) (fun s_ H_ C_ cl_ fp_ => pts_nil) (fun s_ H_ C_ cl_ fp_ => (pe_cmpR op_eq (pv 10) pe_int (nomark _))))))
  (C8.pss_cut (ps_asg (pe_tup (by exact (pa_cons (pe_box (pe_make MkS G_si (hr.mono (by decide)) rfl gSiz b_si .nil pass0 (by exact (pa_cons (pe_op op_cat (pe_op op_rep (pe_lst (pa_cons pe_bl pa_nil)) pe_int) (pe_lst (pa_cons pe_bl pa_nil))) (pa_cons (pe_ix ix_list (pv 1) pe_int (fun _ _ => rfl)) pa_nil))))) (pa_cons (pe_box (pe_make MkS G_si (hr.mono (by decide)) rfl gSiz b_si .nil pass0 (by exact (pa_cons (pe_lst pa_nil) (pa_cons (pe_ix ix_list (pv 1) pe_int (fun _ _ => rfl)) pa_nil))))) pa_nil)))) (pg_tup rfl (pgs_cons (pg_name (i := 5) sc_bnd.nd rfl (Or.inr rfl)) (pgs_cons (pg_name (i := 6) sc_bnd.nd rfl (Or.inr rfl)) pgs_nil))))
  (C8.pss_cut (ps_asg (pe_tup (by exact (pa_cons (pe_box (pe_make MkS G_si (hr.mono (by decide)) rfl gSiz b_si .nil pass0 (by exact (pa_cons (pe_lst pa_nil) (pa_cons (pe_ix ix_list (pv 1) pe_int (fun _ _ => rfl)) pa_nil))))) (pa_cons (pe_box (pe_make MkS G_si (hr.mono (by decide)) rfl gSiz b_si .nil pass0 (by exact (pa_cons (pe_op op_cat (pe_op op_rep (pe_lst (pa_cons pe_bl pa_nil)) pe_int) (pe_lst (pa_cons pe_bl pa_nil))) (pa_cons (pe_ix ix_list (pv 1) pe_int (fun _ _ => rfl)) pa_nil))))) pa_nil)))) (pg_tup rfl (pgs_cons (pg_name (i := 7) sc_bnd.nd rfl (Or.inr rfl)) (pgs_cons (pg_name (i := 8) sc_bnd.nd rfl (Or.inr rfl)) pgs_nil))))
  (C8.pss_cut (ps_set (i := 2) sc_bnd.nd rfl (Or.inl rfl) (pe_call G_pick (hr.mono (by decide)) rfl gP Pk.kp b_pick .nil pass0 (by exact (pa_cons (pv 0) (pa_cons (pe_lst (pa_cons (pe_tup (pa_cons (pv 5) (pa_cons (pv 6) pa_nil))) (pa_cons (pe_tup (pa_cons (pv 6) (pa_cons (pv 5) pa_nil))) pa_nil))) pa_nil)))))
  (C8.pss_cut (ps_set (i := 3) sc_bnd.nd rfl (Or.inl rfl) (pe_op (op_binX firstS oOr iOr G_Or bOr (hr.mono (by decide)) (passes_call LamX.takes0 (fun _ _ _ _ h => h))) (pe_ix ix_tup (pv 2) pe_int (fun _ _ => rfl)) (pe_ix ix_tup (pv 2) pe_int (fun _ _ => rfl))))
  (pss_cons (ps_if (pt_cmpR (op_neD hr.units) (pe_lst (pa_cons (pe_cmpR op_le (pe_callB call_len rfl U.z_len (by decide +kernel) (pa_cons (pe_fld (pv 3) rfl) pa_nil)) pe_int (nomark _)) (pa_cons (pe_callB call_len rfl U.z_len (by decide +kernel) (pa_cons (pe_fld (pv 3) rfl) pa_nil)) (pa_cons (pe_cmpR (show OpR _ (compareOp .In) (rInO CS (spCoS K CS)) from op_inO oCo iCo G_coS bCo (hr.mono (by decide))) pe_int (pv 3) (by rfl)) (pa_cons (pe_cmpR (show OpR _ (compareOp .In) (rInO CS (spCoS K CS)) from op_inO oCo iCo G_coS bCo (hr.mono (by decide))) pe_int (pv 3) (by rfl)) pa_nil))))) (pe_lst (pa_cons pe_bl (pa_cons pe_int (pa_cons pe_bl (pa_cons pe_bl pa_nil))))) (nomark _)) (pss_one (ps_ret pe_bl)) pss_nil)
  (pss_cons (ps_set (i := 4) sc_bnd.nd rfl (Or.inl rfl) (pe_lst (pa_cons (pe_box (LamX.pe_lamcall (k := 10) (t := (fun E => tOp (rBinX CS (spBinX CS CM (fun mine yours => mine && yours)) E) (tVar 8) (tVar 6))) (T := TL) rfl gMa Ma.kp lkM codeM b_many sc_many rfl (Or.inl rfl) (many_gives Z (hr.mono (by decide))) TB (hcode rfl) mT uT (hr.mono (by decide)) (LamX.lamS_by (by kernel_rfl)) rfl (fun _ _ _ _ _ => rfl) (fun A2 outer2 s2 H2 E2 f2 c2 hr2 => (pe_op (op_binX firstS oAnd iAnd G_And bAnd (hr2.mono (by decide)) (passes_call (takes_of rfl rfl rfl rfl) (fun _ _ _ _ h => h))) (pv 8) (pv 6))))) pa_nil)))
  (pss_cons (ps_expr (pe_bm PySem.F.plainAttrs_list PySem.F.slot_list_append PySem.F.type_list_append mt_append (pv 4) (pa_cons (pe_box (LamX.pe_lamcall (k := 10) (t := (fun E => tOp (rBinX CS (spBinX CS CM (fun mine yours => mine != yours)) E) (tVar 6) (tVar 8))) (T := TL) rfl gMa Ma.kp lkM codeM b_many sc_many rfl (Or.inl rfl) (many_gives Z (hr.mono (by decide))) TB (hcode rfl) mT uT (hr.mono (by decide)) (LamX.lamS_by (by kernel_rfl)) rfl (fun _ _ _ _ _ => rfl) (fun A2 outer2 s2 H2 E2 f2 c2 hr2 => (pe_op (op_binX firstS oXor iXor G_Xor bXor (hr2.mono (by decide)) (passes_call (takes_of rfl rfl rfl rfl) (fun _ _ _ _ h => h))) (pv 6) (pv 8))))) pa_nil)))
  (pss_cons (ps_expr (pe_bm PySem.F.plainAttrs_list PySem.F.slot_list_append PySem.F.type_list_append mt_append (pv 4) (pa_cons (pe_box (LamX.pe_lamcall (k := 10) (t := (fun E => tOp (rBinX CS (spBinX CS CM (fun mine yours => mine && !yours)) E) (tVar 5) (tVar 7))) (T := TL) rfl gMa Ma.kp lkM codeM b_many sc_many rfl (Or.inl rfl) (many_gives Z (hr.mono (by decide))) TB (hcode rfl) mT uT (hr.mono (by decide)) (LamX.lamS_by (by kernel_rfl)) rfl (fun _ _ _ _ _ => rfl) (fun A2 outer2 s2 H2 E2 f2 c2 hr2 => (pe_op (op_binX firstS oSub iSub G_Sub bSub (hr2.mono (by decide)) (passes_call (takes_of rfl rfl rfl rfl) (fun _ _ _ _ h => h))) (pv 5) (pv 7))))) pa_nil)))
  (pss_cons (ps_expr (pe_bm PySem.F.plainAttrs_list PySem.F.slot_list_append PySem.F.type_list_append mt_append (pv 4) (pa_cons (pe_box (LamX.pe_lamcall (k := 10) (t := (fun E => tOp (rBinX CS (spBinX CS CM (fun mine yours => mine || yours)) E) (tVar 7) (tVar 5))) (T := TL) rfl gMa Ma.kp lkM codeM b_many sc_many rfl (Or.inl rfl) (many_gives Z (hr.mono (by decide))) TB (hcode rfl) mT uT (hr.mono (by decide)) (LamX.lamS_by (by kernel_rfl)) rfl (fun _ _ _ _ _ => rfl) (fun A2 outer2 s2 H2 E2 f2 c2 hr2 => (pe_op (op_binX firstS oOr iOr G_Or bOr (hr2.mono (by decide)) (passes_call (takes_of rfl rfl rfl rfl) (fun _ _ _ _ h => h))) (pv 7) (pv 5))))) pa_nil)))
  (pss_cons (ps_expr (pe_bm PySem.F.plainAttrs_list PySem.F.slot_list_append PySem.F.type_list_append mt_append (pv 4) (pa_cons (pe_box (LamX.pe_lamcall (k := 10) (t := (fun E => tMeth CS "is_part_of" (spPartX CS CM) [] E (tVar 7) (tCons (tVar 5) tNil))) (T := TL) rfl gMa Ma.kp lkM codeM b_many sc_many rfl (Or.inl rfl) (many_gives Z (hr.mono (by decide))) TB (hcode rfl) mT uT (hr.mono (by decide)) (LamX.lamS_by (by kernel_rfl)) rfl (fun _ _ _ _ _ => rfl) (fun A2 outer2 s2 H2 E2 f2 c2 hr2 => (pe_meth (pv 7) SC.cl Mpt G_part (hr2.mono (by decide)) b_part .nil (passes_call (takes_of rfl rfl rfl rfl) (fun _ _ _ _ h => h)) (by exact (pa_cons (pv 5) pa_nil)))))) pa_nil)))
  (pss_one (ps_ret (pe_and (pe_cmpR (op_eqD hr.units) (pv 4) (pe_op op_rep (pe_lst (pa_cons pe_bl pa_nil)) pe_int) (nomark _)) (pe_one (pe_call0 G_shr (hr.mono (by decide)) rfl gShr Shr.kp b_shr .nil pass0)))))))))))))))), ?_⟩
    have sz : (2000000 : Nat) ≤ sizeLine := by show 2000000 ≤ 16777216; decide
    -- the wheels
    refine ⟨fun σ' H' => ∃ (wl a b c : Addr), σ' = [some (.ref p), some (.ref wl), none, none, none, none, none, none, none, none, none] ∧ Same H H' ∧ H' wl = some (.lst [V.ref a, .ref b, .ref c]) ∧ H' a = some (.lst ((wheelW 31).map V.bl)) ∧ H' b = some (.lst ((wheelW 32).map V.bl)) ∧ H' c = some (.lst ((wheelW 37).map V.bl)), ?_, ?_⟩
    · refine ⟨by show 3 ≤ sizeLine; omega, fun t0 ht0 => ?_⟩
      have s0 := Same.new (o := .tup [V.int 31, .int 32, .int 37]) ht0
      have h0 := upd_same (H := H) (a := t0) (o := .tup [V.int 31, .int 32, .int 37])
      generalize upd H t0 (.tup [V.int 31, .int 32, .int 37]) = H0 at s0 h0 ⊢
      refine ⟨t0, rfl, ⟨_, SqT.of h0⟩, fun D hD => ?_⟩
      have wheel_step : ∀ {k i : Nat}, i < k → (wheelW k)[i]? = some (decide (V.int (0 + (i : Nat)) = V.int 0)) := fun h => by unfold wheelW; rw [List.getElem?_map, List.getElem?_range h]; rfl
      refine lc_it (walk_tup (K := K) (a := t0) (xs := [V.int 31, .int 32, .int 37])) (fun i H' => ∃ a b c : Addr, Same H0 H' ∧ H' D = some (.lst ([V.ref a, .ref b, .ref c].take i)) ∧ (0 < i → a ≠ D ∧ H' a = some (.lst ((wheelW 31).map V.bl))) ∧ (1 < i → b ≠ D ∧ H' b = some (.lst ((wheelW 32).map V.bl))) ∧ (2 < i → c ≠ D ∧ H' c = some (.lst ((wheelW 37).map V.bl)))) ⟨t0, t0, t0, Same.new hD, upd_same, fun z => absurd z (by decide), fun z => absurd z (by decide), fun z => absurd z (by decide)⟩ (fun i H' _ ⟨_, _, _, s1, _⟩ => SqT.of (s1 _ _ h0)) (fun i y H' H'' lt q yy => ?_) (fun H' q => ?_)
      · obtain ⟨rfl, hi⟩ := yy
        obtain ⟨a, b, c, s1, hd, h1, h2, h3⟩ := q
        match i, lt, hi, hd, h1, h2, h3 with
        | 0, _, hi, hd, h1, h2, h3 =>
          cases hi
          refine ⟨rfl, ?_⟩
          refine iteT (B := ∃ a b c : Addr, Same H0 H'' ∧ H'' D = some (.lst ([V.ref a, .ref b, .ref c].take (0 + 1))) ∧ (0 < 0 + 1 → a ≠ D ∧ H'' a = some (.lst ((wheelW 31).map V.bl))) ∧ (1 < 0 + 1 → b ≠ D ∧ H'' b = some (.lst ((wheelW 32).map V.bl))) ∧ (2 < 0 + 1 → c ≠ D ∧ H'' c = some (.lst ((wheelW 37).map V.bl)))) ?_
          refine ⟨_, rfl, _, rfl, by decide, by decide, fun D2 hD2 => ?_⟩
          have nD : D2 ≠ D := fun z => by rw [z, hd] at hD2; cases hD2
          refine lc_range (lo := 0) (n := 31) (fun j H3 => Same H'' H3 ∧ H3 D2 = some (.lst (((wheelW 31).take j).map V.bl))) ⟨Same.new hD2, upd_same⟩ (fun j H3 hj q2 => ?_) (fun H3 q2 => ?_)
          · refine ⟨rfl, ?_⟩
            refine iteT (B := Same H'' H3 ∧ H3 D2 = some (.lst (((wheelW 31).take (j + 1)).map V.bl))) ?_
            exact ⟨_, rfl, rfl, row_step q2.1 hD2 q2.2 (wheel_step hj) (by rw [wheelW_len]; omega)⟩
          · rw [List.take_of_length_le (by rw [wheelW_len]; omega)] at q2
            refine ⟨_, q2.1 _ _ hd, by show 0 < 16777216; decide, D2, b, c, fun b' o e => ?_, upd_same, fun _ => ⟨nD, by rw [upd_ne nD]; exact q2.2⟩, fun z => absurd z (by decide), fun z => absurd z (by decide)⟩
            have nb : b' ≠ D := fun z => by rw [z, hD] at e; cases e
            rw [upd_ne nb]
            exact q2.1 _ _ (s1 _ _ e)
        | 1, _, hi, hd, h1, h2, h3 =>
          cases hi
          refine ⟨rfl, ?_⟩
          refine iteT (B := ∃ a b c : Addr, Same H0 H'' ∧ H'' D = some (.lst ([V.ref a, .ref b, .ref c].take (1 + 1))) ∧ (0 < 1 + 1 → a ≠ D ∧ H'' a = some (.lst ((wheelW 31).map V.bl))) ∧ (1 < 1 + 1 → b ≠ D ∧ H'' b = some (.lst ((wheelW 32).map V.bl))) ∧ (2 < 1 + 1 → c ≠ D ∧ H'' c = some (.lst ((wheelW 37).map V.bl)))) ?_
          refine ⟨_, rfl, _, rfl, by decide, by decide, fun D2 hD2 => ?_⟩
          have nD : D2 ≠ D := fun z => by rw [z, hd] at hD2; cases hD2
          refine lc_range (lo := 0) (n := 32) (fun j H3 => Same H'' H3 ∧ H3 D2 = some (.lst (((wheelW 32).take j).map V.bl))) ⟨Same.new hD2, upd_same⟩ (fun j H3 hj q2 => ?_) (fun H3 q2 => ?_)
          · refine ⟨rfl, ?_⟩
            refine iteT (B := Same H'' H3 ∧ H3 D2 = some (.lst (((wheelW 32).take (j + 1)).map V.bl))) ?_
            exact ⟨_, rfl, rfl, row_step q2.1 hD2 q2.2 (wheel_step hj) (by rw [wheelW_len]; omega)⟩
          · rw [List.take_of_length_le (by rw [wheelW_len]; omega)] at q2
            refine ⟨_, q2.1 _ _ hd, by show 1 < 16777216; decide, a, D2, c, fun b' o e => ?_, upd_same, fun _ => ⟨(h1 (by decide)).1, by rw [upd_ne (h1 (by decide)).1]; exact q2.1 _ _ (h1 (by decide)).2⟩, fun _ => ⟨nD, by rw [upd_ne nD]; exact q2.2⟩, fun z => absurd z (by decide)⟩
            have nb : b' ≠ D := fun z => by rw [z, hD] at e; cases e
            rw [upd_ne nb]
            exact q2.1 _ _ (s1 _ _ e)
        | 2, _, hi, hd, h1, h2, h3 =>
          cases hi
          refine ⟨rfl, ?_⟩
          refine iteT (B := ∃ a b c : Addr, Same H0 H'' ∧ H'' D = some (.lst ([V.ref a, .ref b, .ref c].take (2 + 1))) ∧ (0 < 2 + 1 → a ≠ D ∧ H'' a = some (.lst ((wheelW 31).map V.bl))) ∧ (1 < 2 + 1 → b ≠ D ∧ H'' b = some (.lst ((wheelW 32).map V.bl))) ∧ (2 < 2 + 1 → c ≠ D ∧ H'' c = some (.lst ((wheelW 37).map V.bl)))) ?_
          refine ⟨_, rfl, _, rfl, by decide, by decide, fun D2 hD2 => ?_⟩
          have nD : D2 ≠ D := fun z => by rw [z, hd] at hD2; cases hD2
          refine lc_range (lo := 0) (n := 37) (fun j H3 => Same H'' H3 ∧ H3 D2 = some (.lst (((wheelW 37).take j).map V.bl))) ⟨Same.new hD2, upd_same⟩ (fun j H3 hj q2 => ?_) (fun H3 q2 => ?_)
          · refine ⟨rfl, ?_⟩
            refine iteT (B := Same H'' H3 ∧ H3 D2 = some (.lst (((wheelW 37).take (j + 1)).map V.bl))) ?_
            exact ⟨_, rfl, rfl, row_step q2.1 hD2 q2.2 (wheel_step hj) (by rw [wheelW_len]; omega)⟩
          · rw [List.take_of_length_le (by rw [wheelW_len]; omega)] at q2
            refine ⟨_, q2.1 _ _ hd, by show 2 < 16777216; decide, a, b, D2, fun b' o e => ?_, upd_same, fun _ => ⟨(h1 (by decide)).1, by rw [upd_ne (h1 (by decide)).1]; exact q2.1 _ _ (h1 (by decide)).2⟩, fun _ => ⟨(h2 (by decide)).1, by rw [upd_ne (h2 (by decide)).1]; exact q2.1 _ _ (h2 (by decide)).2⟩, fun _ => ⟨nD, by rw [upd_ne nD]; exact q2.2⟩⟩
            have nb : b' ≠ D := fun z => by rw [z, hD] at e; cases e
            rw [upd_ne nb]
            exact q2.1 _ _ (s1 _ _ e)
        | n + 3, lt, _, _, _, _, _ => exact absurd lt (by show ¬ n + 3 < 3; omega)
      · obtain ⟨a, b, c, s1, hd, h1, h2, h3⟩ := q
        exact ⟨D, a, b, c, rfl, s0.trans s1, hd, (h1 (by decide)).2, (h2 (by decide)).2, (h3 (by decide)).2⟩
    rintro σ' H1 ⟨wl, a31, a32, a37, rfl, s1, hwl, h31, h32, h37⟩
    have wl31 := wheelW_len 31
    have wl32 := wheelW_len 32
    have wl37 := wheelW_len 37
    have pl7 : (pre 7).length = 8 := rfl
    have pl8 : (pre 8).length = 9 := rfl
    have same0 : ∀ H : Hp, Same H H := fun _ _ _ z => z
    refine ⟨fun σ' H' => ∃ x y : Addr, σ' = [some (.ref p), some (.ref wl), none, none, none, some (.ref x), some (.ref y), none, none, none, none] ∧ Same H1 H' ∧ Whl CS H' x (pre 7) 31 ∧ Whl CS H' y [] 32, ?_, ?_⟩
    · refine sizN_box (as := pre 7) (gs := wheelW 31) (fun R k => ?_) (by omega) (by omega) fun H2 x b p s2 fo le at_ => ?_
      · skip
        refine ⟨by show 1 ≤ sizeLine; omega, fun l1 e1 => ?_⟩
        have u1 := Same.new (o := .lst [V.bl false]) e1
        refine ⟨l1, 7, _, rfl, rfl, upd_same, by decide, by decide, by show 1 * 7 ≤ 16777216; decide, fun l2 e2 => ?_⟩
        have u2 := Same.new (o := .lst (List.replicate (7 : Int).toNat [V.bl false]).flatten) e2
        refine ⟨by show 1 ≤ sizeLine; omega, fun l3 e3 => ?_⟩
        have u3 := Same.new (o := .lst [V.bl true]) e3
        refine ⟨l2, l3, _, _, rfl, rfl, u3 _ _ upd_same, upd_same, by show 7 + 1 ≤ 16777216; decide, fun l4 e4 => ?_⟩
        have u4 := Same.new (o := .lst ((List.replicate (7 : Int).toNat [V.bl false]).flatten ++ [V.bl true])) e4
        have u := ((u1.trans u2).trans u3).trans u4
        exact ⟨_, rfl, wl, _, ((0 : Nat) : Int), _, rfl, rfl, SqL.of (u _ _ ((same0 H1) _ _ hwl)), rfl, k _ l4 a31 false false u (show _ = some (HO.lst ((pre 7).map V.bl)) from upd_same) (u _ _ ((same0 H1) _ _ h31))⟩
      have wx := whl_made (by decide) (pre_low 7) fo (by omega) at_
      clear fo le at_
      refine sizN_box (as := []) (gs := wheelW 32) (fun R k => ?_) (by omega) (by show 0 + _ ≤ 1000; omega) fun H3 y b p s3 fo le at_ => ?_
      · skip
        refine ⟨by show 0 ≤ sizeLine; omega, fun l1 e1 => ?_⟩
        have u := Same.new (o := .lst []) e1
        exact ⟨_, rfl, wl, _, ((1 : Nat) : Int), _, rfl, rfl, SqL.of (u _ _ (s2 _ _ hwl)), rfl, k _ l1 a32 false false u (show _ = some (HO.lst (([] : List Bool).map V.bl)) from upd_same) (u _ _ (s2 _ _ h32))⟩
      have wy := whl_made (by decide) (.inl rfl) fo (by decide) at_
      clear fo le at_
      refine ⟨by show 2 ≤ sizeLine; omega, fun t ht => ?_⟩
      have s4 := Same.new (o := .tup [V.ref x, .ref y]) ht
      refine ⟨t, _, rfl, SqT.of upd_same, rfl, _, _, rfl, _, _, rfl, rfl, ?_⟩
      exact ⟨x, y, rfl, (s2.trans s3).trans s4, (wx.same s3).same s4, wy.same s4⟩
    rintro σ' H2 ⟨x, y, rfl, s2, wx, wy⟩
    refine ⟨fun σ' H' => ∃ z v : Addr, σ' = [some (.ref p), some (.ref wl), none, none, none, some (.ref x), some (.ref y), some (.ref z), some (.ref v), none, none] ∧ Same H2 H' ∧ Whl CS H' z [] 37 ∧ Whl CS H' v (pre 8) 31, ?_, ?_⟩
    · refine sizN_box (as := []) (gs := wheelW 37) (fun R k => ?_) (by omega) (by show 0 + _ ≤ 1000; omega) fun H3 z b p s3 fo le at_ => ?_
      · skip
        refine ⟨by show 0 ≤ sizeLine; omega, fun l1 e1 => ?_⟩
        have u := Same.new (o := .lst []) e1
        exact ⟨_, rfl, wl, _, ((2 : Nat) : Int), _, rfl, rfl, SqL.of (u _ _ (s2 _ _ hwl)), rfl, k _ l1 a37 false false u (show _ = some (HO.lst (([] : List Bool).map V.bl)) from upd_same) (u _ _ (s2 _ _ h37))⟩
      have wz := whl_made (by decide) (.inl rfl) fo (by decide) at_
      clear fo le at_
      have s23 := s2.trans s3
      refine sizN_box (as := pre 8) (gs := wheelW 31) (fun R k => ?_) (by omega) (by omega) fun H4 v b p s4 fo le at_ => ?_
      · skip
        refine ⟨by show 1 ≤ sizeLine; omega, fun l1 e1 => ?_⟩
        have u1 := Same.new (o := .lst [V.bl false]) e1
        refine ⟨l1, 8, _, rfl, rfl, upd_same, by decide, by decide, by show 1 * 8 ≤ 16777216; decide, fun l2 e2 => ?_⟩
        have u2 := Same.new (o := .lst (List.replicate (8 : Int).toNat [V.bl false]).flatten) e2
        refine ⟨by show 1 ≤ sizeLine; omega, fun l3 e3 => ?_⟩
        have u3 := Same.new (o := .lst [V.bl true]) e3
        refine ⟨l2, l3, _, _, rfl, rfl, u3 _ _ upd_same, upd_same, by show 8 + 1 ≤ 16777216; decide, fun l4 e4 => ?_⟩
        have u4 := Same.new (o := .lst ((List.replicate (8 : Int).toNat [V.bl false]).flatten ++ [V.bl true])) e4
        have u := ((u1.trans u2).trans u3).trans u4
        exact ⟨_, rfl, wl, _, ((0 : Nat) : Int), _, rfl, rfl, SqL.of (u _ _ (s23 _ _ hwl)), rfl, k _ l4 a31 false false u (show _ = some (HO.lst ((pre 8).map V.bl)) from upd_same) (u _ _ (s23 _ _ h31))⟩
      have wv := whl_made (by decide) (pre_low 8) fo (by omega) at_
      clear fo le at_
      refine ⟨by show 2 ≤ sizeLine; omega, fun t ht => ?_⟩
      have s5 := Same.new (o := .tup [V.ref z, .ref v]) ht
      refine ⟨t, _, rfl, SqT.of upd_same, rfl, _, _, rfl, _, _, rfl, rfl, ?_⟩
      exact ⟨z, v, rfl, (s3.trans s4).trans s5, (wz.same s4).same s5, wv.same s5⟩
    rintro σ' H3 ⟨z, v, rfl, s3, wz, wv⟩
    replace wx := wx.same s3
    replace wy := wy.same s3
    have s13 := (s1.trans s2).trans s3
    have p3 := hp.same s13
    replace tabs := tabs.ext s13
    clear s1 s2 s3 hwl h31 h32 h37
    refine ⟨fun σ' H' => ∃ bt a b : Addr, σ' = [some (.ref p), some (.ref wl), some (.ref bt), none, none, some (.ref x), some (.ref y), some (.ref z), some (.ref v), none, none] ∧ H' bt = some (.tup [.ref a, .ref b]) ∧ ((a = x ∧ b = y) ∨ (a = y ∧ b = x)) ∧ Whl CS H' x (pre 7) 31 ∧ Whl CS H' y [] 32 ∧ Whl CS H' z [] 37 ∧ Whl CS H' v (pre 8) 31 ∧ LamX.Tabs TL H', ?_, ?_⟩
    · refine ⟨_, rfl, _, rfl, _, rfl, by show 2 ≤ sizeLine; omega, fun t1 e1 => ?_⟩
      have u1 := Same.new (o := .tup [V.ref x, .ref y]) e1
      have q1 := p3.new (o := .tup [V.ref x, .ref y]) e1
      refine ⟨_, rfl, _, rfl, by show 2 ≤ sizeLine; omega, fun t2 e2 => ?_⟩
      have u2 := Same.new (o := .tup [V.ref y, .ref x]) e2
      have q2 := q1.new (o := .tup [V.ref y, .ref x]) e2
      refine ⟨by show 2 ≤ sizeLine; omega, fun l e3 => ?_⟩
      have u3 := Same.new (o := .lst [V.ref t1, .ref t2]) e3
      have q3 := q2.new (o := .lst [V.ref t1, .ref t2]) e3
      have u := (u1.trans u2).trans u3
      refine ⟨n, p, q, l, _, rfl, q3, by omega, (q2.fresh e3).1, upd_same, by show 0 < 2; decide, by show 2 ≤ 1000; decide, fun H4 w q4 m4 hw => ?_⟩
      have tb := tabs.ext u
      obtain ⟨ls, hls⟩ := q3.lst
      have tabs4 := tabs_mv hls m4 tb
      have wx4 := (wx.same u).mv q3 m4
      have wy4 := (wy.same u).mv q3 m4
      have wz4 := (wz.same u).mv q3 m4
      have wv4 := (wv.same u).mv q3 m4
      simp only [List.mem_cons, List.not_mem_nil, or_false] at hw
      rcases hw with rfl | rfl
      · exact ⟨t1, x, y, rfl, m4 _ _ (p3.fresh e1).1 (u3 _ _ (u2 _ _ upd_same)), .inl ⟨rfl, rfl⟩, wx4, wy4, wz4, wv4, tabs4⟩
      · exact ⟨t2, y, x, rfl, m4 _ _ (q1.fresh e2).1 (u3 _ _ upd_same), .inr ⟨rfl, rfl⟩, wx4, wy4, wz4, wv4, tabs4⟩
    rintro σ' H4 ⟨bt, a, b, rfl, hbt, two, wx, wy, wz, wv, tabs⟩
    clear p3 hp s13
    refine ⟨fun σ' H' => ∃ (wh : Addr) (zs zg : List Bool), σ' = [some (.ref p), some (.ref wl), some (.ref bt), some (.ref wh), none, some (.ref x), some (.ref y), some (.ref z), some (.ref v), none, none] ∧ SizAt CS H' wh zs zg ∧ LeastS zs zg ∧ zs.length ≤ 8 ∧ zg.length = 992 ∧ (∀ h, sizB zs zg h = unionF h) ∧ Whl CS H' x (pre 7) 31 ∧ Whl CS H' y [] 32 ∧ Whl CS H' z [] 37 ∧ Whl CS H' v (pre 8) 31 ∧ LamX.Tabs TL H', ?_, ?_⟩
    · have key : ∃ (as bs : List Bool) (k m : Nat), Whl CS H4 a as k ∧ Whl CS H4 b bs m ∧ max as.length bs.length ≤ 8 ∧ Nat.lcm k m = 992 ∧ ∀ h, (sizB as (wheelW k) h || sizB bs (wheelW m) h) = unionF h := by
        rcases two with ⟨rfl, rfl⟩ | ⟨rfl, rfl⟩
        · exact ⟨pre 7, [], 31, 32, wx, wy, by decide, by decide +kernel, fun _ => rfl⟩
        · exact ⟨[], pre 7, 32, 31, wy, wx, by decide, by decide +kernel, fun h => Bool.or_comm ..⟩
      obtain ⟨as, bs, k, m, ⟨xs, gs, hx, lx, e1, e2, mx⟩, ⟨ys, hs, hy, ly, e3, e4, my⟩, l8, lc, mean⟩ := key
      refine ⟨_, rfl, bt, _, ((0 : Nat) : Int), _, rfl, rfl, SqT.of hbt, rfl, _, rfl, bt, _, ((1 : Nat) : Int), _, rfl, rfl, SqT.of hbt, rfl, ?_⟩
      refine bin_r ⟨hx, hy, lx, ly, by rw [e1, e2, e3, e4, lc]; omega⟩ fun H5 wh s5 j => ?_
      obtain ⟨zs, zg, hz, lz, lb, per, mz⟩ := Tells.ex j
      have z8 : zs.length ≤ 8 := by rw [e1, e3] at lb; omega
      have mu : ∀ h, sizB zs zg h = unionF h := fun h => by
        rw [mz h, ← mean h, ← mx h, ← my h]
      have dv : zg.length ∣ 992 := by
        rw [← lc, ← e2, ← e4]
        exact per
      have no : ∀ D i, 8 ≤ i → unionF (i + D) ≠ unionF i → ¬ zg.length ∣ D := fun D i h8 ne d => ne (tells_per mu d (by omega))
      exact ⟨wh, zs, zg, rfl, hz, lz, z8, per_992 dv (no 496 32 (by decide) (by decide +kernel)) (no 32 8 (by decide) (by decide +kernel)), mu, wx.same s5, wy.same s5, wz.same s5, wv.same s5, tabs.ext s5⟩
    rintro σ' H5 ⟨wh, zs, zg, rfl, hz, lz, z8, z9, mu, wx, wy, wz, wv, tabs⟩
    clear hbt two
    obtain ⟨dw, tw, uw, cw, ctw, cuw⟩ := id hz
    have ln : ∀ {H' : Hp} {t : Addr} {bs : List Bool}, H' t = some (.tup (bs.map V.bl)) → LenV K (.ref t) H' bs.length := fun {H' t bs} h => by
      have q := SeqAt2.len (K := K) (SqB.ii (t := true) (show SqB true H' t (bs.map V.bl) from h))
      rw [List.length_map] at q
      exact q
    have l9 : LenV K (.ref uw) H5 992 := z9 ▸ ln cuw
    obtain ⟨w1, few⟩ := lz.len
    refine ⟨_, rfl, wh, CS, dw, _, _, rfl, cw, SC.cl, SC.nAhead, sfs_a _ _, _, _, rfl, ln ctw, _, _, rfl, rfl, ?_⟩
    try dsimp only
    rw [show decide (((zs.length : Nat) : Int) ≤ 8) = true from decide_eq_true (by omega)]
    refine ⟨_, rfl, wh, CS, dw, _, _, rfl, cw, SC.cl, SC.nAgain, sfs_g _ _, _, _, rfl, l9, ?_⟩
    have in8 : hasB zs zg (.int 8) = true := by
      show (decide ((1 : Int) ≤ 8) && sizB zs zg 7) = true
      rw [mu]
      decide +kernel
    have in9 : hasB zs zg (.int 9) = true := by
      show (decide ((1 : Int) ≤ 9) && sizB zs zg 8) = true
      rw [mu]
      decide +kernel
    refine ⟨_, rfl, wh, dw, _, rfl, cw, wh, zs, zg, _, rfl, hz, w1, by omega, it_int, _, rfl, ?_⟩
    try dsimp only
    rw [in8]
    refine ⟨_, rfl, wh, dw, _, rfl, cw, wh, zs, zg, _, rfl, hz, w1, by omega, it_int, _, rfl, ?_⟩
    try dsimp only
    rw [in9]
    refine ⟨by show 4 ≤ sizeLine; omega, fun l1 hl1 => ?_⟩
    have n1 := Same.new (o := .lst [V.bl true, .int (992 : Nat), .bl true, .bl true]) hl1
    refine ⟨by show 4 ≤ sizeLine; omega, fun l2 hl2 => ?_⟩
    have n2 := Same.new (o := .lst [V.bl true, .int 992, .bl true, .bl true]) hl2
    refine ⟨_, _, Dp.lst (SqL.of (n2 _ _ upd_same)) (.cons (.bl _) (.cons (.int _) (.cons (.bl _) (.cons (.bl _) .nil)))), Dp.lst (SqL.of upd_same) (.cons (.bl _) (.cons (.int _) (.cons (.bl _) (.cons (.bl _) .nil)))), by decide +kernel, by decide +kernel, ?_⟩
    have e2 : PyData.eqv (.list [.bool true, .int ((992 : Nat) : Int), .bool true, .bool true]) (.list [.bool true, .int 992, .bool true, .bool true]) = true := by decide +kernel
    rw [e2]
    refine ⟨_, rfl, iteF ?_⟩
    have n12 := n1.trans n2
    replace wx := wx.same n12
    replace wy := wy.same n12
    replace wz := wz.same n12
    replace wv := wv.same n12
    replace tabs := tabs.ext n12
    show tSeq _ _ _ _ (upd (upd H5 l1 (.lst [V.bl true, .int (992 : Nat), .bl true, .bl true])) l2 (.lst [V.bl true, .int 992, .bl true, .bl true]))
    generalize upd (upd H5 l1 (.lst [V.bl true, .int (992 : Nat), .bl true, .bl true])) l2 (.lst [V.bl true, .int 992, .bl true, .bl true]) = G0 at wx wy wz wv tabs ⊢
    clear n12 n1 n2 hz
    -- five times too many
    refine heard_bin tabs rfl rfl (wv.wide wy (by decide +kernel)) fun H6 e6 tb6 => ?_
    refine ⟨by show 1 ≤ sizeLine; omega, fun td htd => ?_⟩
    have t1 := HeardAt.first (y := V.bl true) e6 tb6 htd
    show tSeq _ _ _ _ (upd H6 td (.lst [V.bl true]))
    generalize upd H6 td (.lst [V.bl true]) = G1 at t1 ⊢
    refine ⟨_, rfl, .inl ⟨rfl, _, SqL.of t1.at_⟩, ?_⟩
    refine heard_bin t1.tabs rfl rfl ((wy.extN t1.ext).wide (wv.extN t1.ext) (by decide +kernel)) fun H7 e7 tb7 => ?_
    obtain ⟨at7, t2⟩ := t1.app (y := V.bl true) e7 tb7
    refine ⟨td, _, _, rfl, rfl, at7, by show 1 < 16777216; decide, ?_⟩
    show tSeq _ _ _ _ (upd H7 td (.lst ([V.bl true] ++ [V.bl true])))
    generalize upd H7 td (.lst ([V.bl true] ++ [V.bl true])) = G2 at t2 ⊢
    refine ⟨_, rfl, .inl ⟨rfl, _, SqL.of t2.at_⟩, ?_⟩
    refine heard_bin t2.tabs rfl rfl ((wx.extN t2.ext).wide (wz.extN t2.ext) (by decide +kernel)) fun H8 e8 tb8 => ?_
    obtain ⟨at8, t3⟩ := t2.app (y := V.bl true) e8 tb8
    refine ⟨td, _, _, rfl, rfl, at8, by show 2 < 16777216; decide, ?_⟩
    show tSeq _ _ _ _ (upd H8 td (.lst (([V.bl true] ++ [V.bl true]) ++ [V.bl true])))
    generalize upd H8 td (.lst (([V.bl true] ++ [V.bl true]) ++ [V.bl true])) = G3 at t3 ⊢
    refine ⟨_, rfl, .inl ⟨rfl, _, SqL.of t3.at_⟩, ?_⟩
    refine heard_bin t3.tabs rfl rfl ((wz.extN t3.ext).wide (wx.extN t3.ext) (by decide +kernel)) fun H9 e9 tb9 => ?_
    obtain ⟨at9, t4⟩ := t3.app (y := V.bl true) e9 tb9
    refine ⟨td, _, _, rfl, rfl, at9, by show 3 < 16777216; decide, ?_⟩
    show tSeq _ _ _ _ (upd H9 td (.lst ((([V.bl true] ++ [V.bl true]) ++ [V.bl true]) ++ [V.bl true])))
    generalize upd H9 td (.lst ((([V.bl true] ++ [V.bl true]) ++ [V.bl true]) ++ [V.bl true])) = G4 at t4 ⊢
    refine ⟨_, rfl, .inl ⟨rfl, _, SqL.of t4.at_⟩, ?_⟩
    refine heard_part t4.tabs rfl rfl ((wz.extN t4.ext).wide (wx.extN t4.ext) (by decide +kernel)) fun Ha ea tba => ?_
    obtain ⟨ata, t5⟩ := t4.app (y := V.bl true) ea tba
    refine ⟨td, _, _, rfl, rfl, ata, by show 4 < 16777216; decide, ?_⟩
    have hd := t5.at_
    generalize hG : upd Ha td (.lst (((([V.bl true] ++ [V.bl true]) ++ [V.bl true]) ++ [V.bl true]) ++ [V.bl true])) = G5 at hd ⊢
    refine ⟨_, rfl, by show 1 ≤ sizeLine; omega, fun l1 e1 => ?_⟩
    have u1 := Same.new (o := .lst [V.bl true]) e1
    refine ⟨l1, 5, _, rfl, rfl, upd_same, by decide, by decide, by show 1 * 5 ≤ 16777216; decide, fun l2 e2 => ?_⟩
    have u2 := Same.new (o := .lst (List.replicate (5 : Int).toNat [V.bl true]).flatten) e2
    refine SqB.eqB (t := false) (xs := [true, true, true, true, true]) (ys := [true, true, true, true, true]) (show _ = some (HO.lst _) from u2 _ _ (u1 _ _ hd)) (show _ = some (HO.lst _) from upd_same) ⟨_, rfl, ?_⟩
    rw [decide_eq_true rfl]
    exact iteT ⟨rfl, fun Hz _ => fin Hz⟩

end
end Fz
set_option Elab.async false
set_option linter.all false
set_option maxRecDepth 100000
set_option maxHeartbeats 2000000
namespace Fz
open PySem PySem.Spec PyProof.Rows L2
/-- one step of a reading -/
local macro_rules | `(tactic| walk_at "st") => `(tactic| first
  | refine ⟨_, rfl, ?_⟩
  | refine Or.inl ⟨_, rfl, ?_⟩
  | refine Or.inr ⟨_, rfl, ?_⟩
  | refine ⟨_, _, _, _, rfl, rfl, SqL.of (by first | assumption | exact upd_same), rfl, ?_⟩
  | refine ⟨_, _, _, _, rfl, rfl, (by first | assumption | exact upd_same), rfl, ?_⟩
  | refine ⟨_, _, rfl, .inl ⟨_, SqL.of (by first | assumption | exact upd_same), rfl⟩, ?_⟩
  | refine ⟨_, _, rfl, rfl, (show (0 : Int) < _ by first | decide | omega), ?_⟩
  | refine ⟨_, _, rfl, rfl, (show (0 : Int) < _ ∧ _ < _ by first | exact ⟨by decide, by decide⟩ | omega), ?_⟩
  | refine ⟨_, _, rfl, rfl, (show (_ < _ ∧ _ < _) ∨ (_ < _ ∧ _ < _) by first | exact .inl ⟨by decide, by decide⟩ | omega), ?_⟩
  | refine ⟨_, _, rfl, rfl, (show (0 : Int) ≤ _ ∧ _ ≤ _ ∧ _ < _ by first | exact ⟨by decide, by decide, by decide⟩ | exact ⟨by decide, by decide, by omega⟩), ?_⟩
  | refine ⟨_, _, rfl, rfl, ?_⟩)

abbrev s_law : Stmt := topS 38
theorem sc_law : FnScope ["_law_script", "_law_pen_here", "_law_turn", "_law_plan_here", "_law_rival"] ["_law_script"] (defScope s_law) := ⟨rfl, rfl, rfl, by decide +kernel, rfl, by decide +kernel, by decide +kernel⟩
section
variable {P : Program} {w : World} {K : PySem.W.Frag} {mg : Str → Option Value} {base : Heap}

def spLaw (PB : Addr) (K : PySem.W.Frag) : Sp := fun vs H Q _ => ∃ (a : Addr) (ns : List Int), vs = [.ref a] ∧ SqL K H a (ns.map V.int) ∧ ns.length ≤ 63 ∧ H PB = some (.tbl #[]) ∧ ∀ H', Q (.bl true) H'
theorem ok_law {CS f fPn fD fP fBo fPl fRi fBn PB : Addr} {fd fdPn fdD fdP fdBo fdPl fdRi fdBn : FuncData} (F : Fun K "law" "law" s_law f fd) (U : Blt mg)
    (Pn : Fun K "_law_pen" "_law_pen" s_pen fPn fdPn) (gPn : mg "_law_pen" = some (.ref fPn)) (b_pen : L2.Binds K fdPn ["_law_script"] [])
    (D : Fun K "_law_draw" "_law_draw" s_draw fD fdD) (gD : mg "_law_draw" = some (.ref fD)) (b_draw : L2.Binds K fdD ["_law_pen_here", "_law_many"] [])
    (Pk : Fun K "_law_pick" "_law_pick" s_pick fP fdP) (gP : mg "_law_pick" = some (.ref fP)) (b_pick : L2.Binds K fdP ["_law_pen_here", "_law_some"] [])
    (Bo : Fun K "_law_bools" "_law_bools" s_bools fBo fdBo) (gBo : mg "_law_bools" = some (.ref fBo)) (b_bools : L2.Binds K fdBo ["_law_pen_here", "_law_most"] [])
    (Pl : Fun K "_law_plan" "_law_plan" s_plan fPl fdPl) (gPl : mg "_law_plan" = some (.ref fPl)) (b_plan : L2.Binds K fdPl ["_law_pen_here", "_law_most"] [])
    (Ri : Fun K "_law_right" "_law_right" s_right fRi fdRi) (gRi : mg "_law_right" = some (.ref fRi)) (b_right : L2.Binds K fdRi ["_law_plan_here", "_law_rival"] []) (G_right : FnG P w K mg base CX0 12 fRi fdRi ["_law_plan_here", "_law_rival"] (spRight CS))
    (Bn : Fun K "_law_bounds_right" "_law_bounds_right" s_bnd fBn fdBn) (gBn : mg "_law_bounds_right" = some (.ref fBn)) (b_bnd : L2.Binds K fdBn ["_law_pen_here"] []) (G_bnd : FnG P w K mg base CX0 14 fBn fdBn ["_law_pen_here"] (spBnd [(PB, lamB)])) : FnG P w K mg base CX0 15 f fd ["_law_script"] (spLaw PB K) := by
  have G_pen : FnOk P w K mg base CX0 1 fPn fdPn ["_law_script"] (spPen K) := ok_pen Pn U
  have G_plan : FnOk P w K mg base CX0 3 fPl fdPl ["_law_pen_here", "_law_most"] spPlan := ok_plan Pl U D gD b_draw Pk gP b_pick Bo gBo b_bools
  refine funG F sc_law (fun vs H Q E h => ?_) (fun cdv A outer s H vs Q E _ hr hg h => ?_)
  · obtain ⟨a, ns, rfl, _⟩ := h
    rfl
  · obtain ⟨a, ns, rfl, hs, few, ht, fin⟩ := h
    refine ⟨_, (pss_cons (ps_set (i := 1) sc_law.nd rfl (Or.inl rfl) (pe_call G_pen (hr.mono (by decide)) rfl gPn Pn.kp b_pen .nil pass0 (by exact (pa_cons (pv 0) pa_nil))))
  (C8.pss_cut (ps_for PassesOwn.never rfl (pi_range1 rfl U.z_range (by exact (pa_cons pe_int pa_nil))) (pg_name (i := 2) sc_law.nd rfl (Or.inl rfl)) (pss_cons (ps_par (i := 3) (j := 4) (by rfl) sc_law.nd rfl rfl (by decide) rfl rfl (pa_cons (pe_call G_plan (hr.mono (by decide)) rfl gPl Pl.kp b_plan .nil pass0 (by exact (pa_cons (pv 1) (pa_cons pe_int pa_nil)))) (pa_cons (pe_call G_plan (hr.mono (by decide)) rfl gPl Pl.kp b_plan .nil pass0 (by exact (pa_cons (pv 1) (pa_cons pe_int pa_nil)))) pa_nil)) (by rfl))
  (pss_one (ps_if (PW.pt (pw_or (pt_not (pt_val (pe_callG G_right (hr.mono (by decide)) hg rfl gRi Ri.kp b_right .nil pass0 (by exact (pa_cons (pv 3) (pa_cons (pv 4) pa_nil)))))) (pw_or1 (pt_not (pt_val (pe_callG G_right (hr.mono (by decide)) hg rfl gRi Ri.kp b_right .nil pass0 (by exact (pa_cons (pv 3) (pa_cons (pv 3) pa_nil))))))))) (pss_one (ps_ret pe_bl)) pss_nil))))
  (pss_one (ps_ret (pe_callG G_bnd (hr.mono (by decide)) hg rfl gBn Bn.kp b_bnd .nil pass0 (by exact (pa_cons (pv 1) pa_nil))))))), ?_⟩
    refine ⟨_, rfl, a, ns, rfl, hs, few, fun H0 p q hp0 hq0 pen0 same0 => ?_⟩
    have tabs0 : LamX.Tabs [(PB, lamB)] H0 := fun b hb => by
      rw [List.mem_singleton.mp hb]
      exact LamX.TabS.nil (same0 _ _ ht)
    refine ⟨fun σ' H' => ∃ (v1 v2 v3 : Option V), σ' = [some (.ref a), some (.ref p), v1, v2, v3] ∧ PenAt 320 H' p q ∧ LamX.Tabs [(PB, lamB)] H', ?_, ?_⟩
    · refine ⟨8, rfl, by decide, by decide, for_range (lo := 0) (n := 8) (fun i σ' H' => ∃ (v1 v2 v3 : Option V), σ' = [some (.ref a), some (.ref p), v1, v2, v3] ∧ PenAt (40 * i) H' p q ∧ LamX.Tabs [(PB, lamB)] H') ⟨_, _, _, rfl, pen0, tabs0⟩ ?_ ?_⟩
      rotate_left
      · rintro σ' H' ⟨v1, v2, v3, rfl, pen, tb⟩
        exact ⟨_, _, _, rfl, pen, tb⟩
      rintro i σ' H1 hi ⟨v1, v2, v3, rfl, pen1, tb1⟩
      refine ⟨_, rfl, 40 * i, 4, p, q, rfl, pen1, by omega, by decide, by decide, fun H2 pl f g as gs pen2 mv2 hpl hf hgg plp fp gp npl nf ng g1 la lg => ?_⟩
      refine ⟨_, rfl, 40 * i + 20, 4, p, q, rfl, pen2, by omega, by decide, by decide, fun H3 pl' f' g' as' gs' pen3 mv3 hpl' hf' hgg' plp' fp' gp' npl' nf' ng' g1' la' lg' => ?_⟩
      refine ⟨_, _, rfl, ?_⟩
      have planA : PlanAt H3 pl as gs := ⟨f, g, mv3 _ _ plp hpl, mv3 _ _ fp hf, mv3 _ _ gp hgg⟩
      have planB : PlanAt H3 pl' as' gs' := ⟨f', g', hpl', hf', hgg'⟩
      obtain ⟨zs, hz⟩ := pen1.lst
      have tb3 := tabs_mv hz (mv2.trans mv3) tb1
      refine ⟨_, rfl, _, rfl, pl, pl', as, gs, as', gs', rfl, planA, planB, g1, g1', la, lg, la', lg', fun H4 s4 => ⟨_, rfl, iteF ?_⟩⟩
      refine ⟨_, rfl, _, rfl, pl, pl, as, gs, as, gs, rfl, planA.mono s4, planA.mono s4, g1, g1, la, lg, la, lg, fun H5 s5 => ⟨_, rfl, iteF ?_⟩⟩
      have s45 := s4.trans s5
      exact ⟨_, _, _, rfl, (pen3.same s45).more (by omega), tb3.ext s45⟩
    rintro σ' H1 ⟨v1, v2, v3, rfl, pen1, tb1⟩
    exact ⟨_, rfl, 320, p, q, rfl, pen1, by decide, tb1, fin⟩
end
end Fz
set_option Elab.async false
set_option linter.all false
set_option maxRecDepth 100000
set_option maxHeartbeats 2000000
namespace Fz
open PySem PySem.Spec PyProof.Rows L2
/-- one step of a reading -/
local macro_rules | `(tactic| walk_at "st") => `(tactic| first
  | refine ⟨_, rfl, ?_⟩
  | refine Or.inl ⟨_, rfl, ?_⟩
  | refine Or.inr ⟨_, rfl, ?_⟩
  | refine ⟨_, _, _, _, rfl, rfl, SqL.of (by first | assumption | exact upd_same), rfl, ?_⟩
  | refine ⟨_, _, _, _, rfl, rfl, (by first | assumption | exact upd_same), rfl, ?_⟩
  | refine ⟨_, _, rfl, .inl ⟨_, SqL.of (by first | assumption | exact upd_same), rfl⟩, ?_⟩
  | refine ⟨_, _, rfl, rfl, (show (0 : Int) < _ by first | decide | omega), ?_⟩
  | refine ⟨_, _, rfl, rfl, (show (0 : Int) < _ ∧ _ < _ by first | exact ⟨by decide, by decide⟩ | omega), ?_⟩
  | refine ⟨_, _, rfl, rfl, (show (_ < _ ∧ _ < _) ∨ (_ < _ ∧ _ < _) by first | exact .inl ⟨by decide, by decide⟩ | omega), ?_⟩
  | refine ⟨_, _, rfl, rfl, (show (0 : Int) ≤ _ ∧ _ ≤ _ ∧ _ < _ by first | exact ⟨by decide, by decide, by decide⟩ | exact ⟨by decide, by decide, by omega⟩), ?_⟩
  | refine ⟨_, _, rfl, rfl, ?_⟩)

theorem all_mk {l : PySem.W.OpenLaw} {w : World} {K : PySem.W.Frag} {h : Heap} {mg mb : Str → Option Value} {fa : Addr} {qp : Program} {lo : List Str} {mean : ExcName → Option Value} (X : K.In h) (Tp : Top qp lo mean mg mb h) (hfa : mg "law" = some (.ref fa)) {dBn : DefRec} (hrBn : (recsOf qp).find? (fun e : DefRec => e.name == ("_law_bounds_right" : Str)) = some dBn)
    {kodBn PBn : Addr}
    {CS : Addr}
    {CM : Addr}
    {fLp : Addr}
    {odLp anLp : Option Addr} {slLp : Array (Option Value)} {ocLp kVLp dcLp pmLp cdLp ctLp : Value}
    {fLf : Addr}
    {odLf anLf : Option Addr} {slLf : Array (Option Value)} {ocLf kVLf dcLf pmLf cdLf ctLf : Value}
    {fIf : Addr}
    {odIf anIf : Option Addr} {slIf : Array (Option Value)} {ocIf kVIf dcIf pmIf cdIf ctIf : Value}
    {fIr : Addr}
    {odIr anIr : Option Addr} {slIr : Array (Option Value)} {ocIr kVIr dcIr pmIr cdIr ctIr : Value}
    {fCk : Addr}
    {odCk anCk : Option Addr} {slCk : Array (Option Value)} {ocCk kVCk dcCk pmCk cdCk ctCk : Value}
    {fN : Addr}
    {odN anN : Option Addr} {slN : Array (Option Value)} {ocN kVN dcN pmN cdN ctN : Value}
    {fFt : Addr}
    {odFt anFt : Option Addr} {slFt : Array (Option Value)} {ocFt kVFt dcFt pmFt cdFt ctFt : Value}
    {fFb : Addr}
    {odFb anFb : Option Addr} {slFb : Array (Option Value)} {ocFb kVFb dcFb pmFb cdFb ctFb : Value}
    {fCm : Addr}
    {odCm anCm : Option Addr} {slCm : Array (Option Value)} {ocCm kVCm dcCm pmCm cdCm ctCm : Value}
    {fPs : Addr}
    {odPs anPs : Option Addr} {slPs : Array (Option Value)} {ocPs kVPs dcPs pmPs cdPs ctPs : Value}
    {fPn : Addr}
    {odPn anPn : Option Addr} {slPn : Array (Option Value)} {ocPn kVPn dcPn pmPn cdPn ctPn : Value}
    {fD : Addr}
    {odD anD : Option Addr} {slD : Array (Option Value)} {ocD kVD dcD pmD cdD ctD : Value}
    {fPk : Addr}
    {odPk anPk : Option Addr} {slPk : Array (Option Value)} {ocPk kVPk dcPk pmPk cdPk ctPk : Value}
    {fHa : Addr}
    {odHa anHa : Option Addr} {slHa : Array (Option Value)} {ocHa kVHa dcHa pmHa cdHa ctHa : Value}
    {fBo : Addr}
    {odBo anBo : Option Addr} {slBo : Array (Option Value)} {ocBo kVBo dcBo pmBo cdBo ctBo : Value}
    {fPl : Addr}
    {odPl anPl : Option Addr} {slPl : Array (Option Value)} {ocPl kVPl dcPl pmPl cdPl ctPl : Value}
    {fIs : Addr}
    {odIs anIs : Option Addr} {slIs : Array (Option Value)} {ocIs kVIs dcIs pmIs cdIs ctIs : Value}
    {fIp : Addr}
    {odIp anIp : Option Addr} {slIp : Array (Option Value)} {ocIp kVIp dcIp pmIp cdIp ctIp : Value}
    {fRi : Addr}
    {odRi anRi : Option Addr} {slRi : Array (Option Value)} {ocRi kVRi dcRi pmRi cdRi ctRi : Value}
    {fMa : Addr}
    {odMa anMa : Option Addr} {slMa : Array (Option Value)} {ocMa kVMa dcMa pmMa cdMa ctMa : Value}
    {fSh : Addr}
    {odSh anSh : Option Addr} {slSh : Array (Option Value)} {ocSh kVSh dcSh pmSh cdSh ctSh : Value}
    {fBn : Addr}
    {odBn anBn : Option Addr} {slBn : Array (Option Value)} {ocBn kVBn dcBn pmBn  ctBn : Value}
    {fSi : Addr}
    {odSi anSi : Option Addr} {slSi : Array (Option Value)} {ocSi kVSi dcSi pmSi cdSi ctSi : Value}
    {fEq : Addr}
    {odEq anEq : Option Addr} {slEq : Array (Option Value)} {ocEq kVEq dcEq pmEq cdEq ctEq : Value}
    {fBb : Addr}
    {odBb anBb : Option Addr} {slBb : Array (Option Value)} {ocBb kVBb dcBb pmBb cdBb ctBb : Value}
    {fCo : Addr}
    {odCo anCo : Option Addr} {slCo : Array (Option Value)} {ocCo kVCo dcCo pmCo cdCo ctCo : Value}
    {fAnd : Addr}
    {odAnd anAnd : Option Addr} {slAnd : Array (Option Value)} {ocAnd kVAnd dcAnd pmAnd cdAnd ctAnd : Value}
    {fOr : Addr}
    {odOr anOr : Option Addr} {slOr : Array (Option Value)} {ocOr kVOr dcOr pmOr cdOr ctOr : Value}
    {fSub : Addr}
    {odSub anSub : Option Addr} {slSub : Array (Option Value)} {ocSub kVSub dcSub pmSub cdSub ctSub : Value}
    {fXor : Addr}
    {odXor anXor : Option Addr} {slXor : Array (Option Value)} {ocXor kVXor dcXor pmXor cdXor ctXor : Value}
    {fInv : Addr}
    {odInv anInv : Option Addr} {slInv : Array (Option Value)} {ocInv kVInv dcInv pmInv cdInv ctInv : Value}
    {fPt : Addr}
    {odPt anPt : Option Addr} {slPt : Array (Option Value)} {ocPt kVPt dcPt pmPt cdPt ctPt : Value}
    {pMu : Addr}
    {restMu : List Value}
    {fMu : Addr}
    {odMu anMu : Option Addr} {slMu : Array (Option Value)} {ocMu kVMu dcMu pmMu cdMu ctMu : Value}
    {fTm : Addr}
    {odTm anTm : Option Addr} {slTm : Array (Option Value)} {ocTm kVTm dcTm pmTm cdTm ctTm : Value}
    {t_CS_MOST : Tok}
    {tMM : Tok}
    {nmCM q_CM : Str} {N_CM : Addr} {bsCM bmCM : List Value} {snCM : List Str} {subCM : List Value} {abCM : Bool} {colCM : Option Bool} {ddCM : Option Addr} {m0CM m1CM m2CM m3CM m5CM : Option Value}
    {fL : Addr}
    {odL anL : Option Addr} {slL : Array (Option Value)} {ocL kVL dcL pmL cdL ctL : Value}
    {occBn : Value} {odccBn : Option Addr} {vscBn : Array Value} {slccBn : Array (Option Value)}
    (gS : PySem.W.nsIn K mainGlobals "Sizes" = some (some (.ref CS)))
    (gM : PySem.W.nsIn K mainGlobals "TooMany" = some (some (.ref CM)))
    (aLp : PySem.W.nsIn K mainGlobals "least_period" = some (some (.ref fLp)))
    (lLp : K.lookup fLp = some ⟨ocLp, odLp, .func (PySem.W.fnOf "least_period" "least_period" (defArgs s_lp) (defBody s_lp) (defScope s_lp) .none kVLp dcLp pmLp anLp cdLp ctLp), slLp⟩)
    (cLp : PySem.W.codeIn K cdLp "least_period" = true)
    (kLp : PySem.W.keepIn K (.ref fLp) = true)
    (aLf : PySem.W.nsIn K mainGlobals "least_form" = some (some (.ref fLf)))
    (lLf : K.lookup fLf = some ⟨ocLf, odLf, .func (PySem.W.fnOf "least_form" "least_form" (defArgs s_lf) (defBody s_lf) (defScope s_lf) .none kVLf dcLf pmLf anLf cdLf ctLf), slLf⟩)
    (cLf : PySem.W.codeIn K cdLf "least_form" = true)
    (kLf : PySem.W.keepIn K (.ref fLf) = true)
    (aIf : PySem.W.nsIn K mainGlobals "is_from" = some (some (.ref fIf)))
    (lIf : K.lookup fIf = some ⟨ocIf, odIf, .func (PySem.W.fnOf "is_from" "is_from" (defArgs s_if) (defBody s_if) (defScope s_if) .none kVIf dcIf pmIf anIf cdIf ctIf), slIf⟩)
    (cIf : PySem.W.codeIn K cdIf "is_from" = true)
    (kIf : PySem.W.keepIn K (.ref fIf) = true)
    (aIr : PySem.W.nsIn K mainGlobals "is_row" = some (some (.ref fIr)))
    (lIr : K.lookup fIr = some ⟨ocIr, odIr, .func (PySem.W.fnOf "is_row" "is_row" (defArgs s_ir) (defBody s_ir) (defScope s_ir) .none kVIr dcIr pmIr anIr cdIr ctIr), slIr⟩)
    (cIr : PySem.W.codeIn K cdIr "is_row" = true)
    (kIr : PySem.W.keepIn K (.ref fIr) = true)
    (aCk : PySem.W.nsIn K mainGlobals "check_rows" = some (some (.ref fCk)))
    (lCk : K.lookup fCk = some ⟨ocCk, odCk, .func (PySem.W.fnOf "check_rows" "check_rows" (defArgs s_ck) (defBody s_ck) (defScope s_ck) .none kVCk dcCk pmCk anCk cdCk ctCk), slCk⟩)
    (cCk : PySem.W.codeIn K cdCk "check_rows" = true)
    (kCk : PySem.W.keepIn K (.ref fCk) = true)
    (aN : PySem.W.nsIn K mainGlobals "is_number" = some (some (.ref fN)))
    (lN : K.lookup fN = some ⟨ocN, odN, .func (PySem.W.fnOf "is_number" "is_number" (defArgs s_num) (defBody s_num) (defScope s_num) .none kVN dcN pmN anN cdN ctN), slN⟩)
    (cN : PySem.W.codeIn K cdN "is_number" = true)
    (kN : PySem.W.keepIn K (.ref fN) = true)
    (aFt : PySem.W.nsIn K mainGlobals "first_told" = some (some (.ref fFt)))
    (lFt : K.lookup fFt = some ⟨ocFt, odFt, .func (PySem.W.fnOf "first_told" "first_told" (defArgs s_ft) (defBody s_ft) (defScope s_ft) .none kVFt dcFt pmFt anFt cdFt ctFt), slFt⟩)
    (cFt : PySem.W.codeIn K cdFt "first_told" = true)
    (kFt : PySem.W.keepIn K (.ref fFt) = true)
    (aFb : PySem.W.nsIn K mainGlobals "first_bools" = some (some (.ref fFb)))
    (lFb : K.lookup fFb = some ⟨ocFb, odFb, .func (PySem.W.fnOf "first_bools" "first_bools" (defArgs s_fb) (defBody s_fb) (defScope s_fb) .none kVFb dcFb pmFb anFb cdFb ctFb), slFb⟩)
    (cFb : PySem.W.codeIn K cdFb "first_bools" = true)
    (kFb : PySem.W.keepIn K (.ref fFb) = true)
    (aCm : PySem.W.nsIn K mainGlobals "common_rows" = some (some (.ref fCm)))
    (lCm : K.lookup fCm = some ⟨ocCm, odCm, .func (PySem.W.fnOf "common_rows" "common_rows" (defArgs s_cm) (defBody s_cm) (defScope s_cm) .none kVCm dcCm pmCm anCm cdCm ctCm), slCm⟩)
    (cCm : PySem.W.codeIn K cdCm "common_rows" = true)
    (kCm : PySem.W.keepIn K (.ref fCm) = true)
    (aPs : PySem.W.nsIn K mainGlobals "parted_sizes" = some (some (.ref fPs)))
    (lPs : K.lookup fPs = some ⟨ocPs, odPs, .func (PySem.W.fnOf "parted_sizes" "parted_sizes" (defArgs s_ps) (defBody s_ps) (defScope s_ps) .none kVPs dcPs pmPs anPs cdPs ctPs), slPs⟩)
    (cPs : PySem.W.codeIn K cdPs "parted_sizes" = true)
    (kPs : PySem.W.keepIn K (.ref fPs) = true)
    (aPn : PySem.W.nsIn K mainGlobals "_law_pen" = some (some (.ref fPn)))
    (lPn : K.lookup fPn = some ⟨ocPn, odPn, .func (PySem.W.fnOf "_law_pen" "_law_pen" (defArgs s_pen) (defBody s_pen) (defScope s_pen) .none kVPn dcPn pmPn anPn cdPn ctPn), slPn⟩)
    (cPn : PySem.W.codeIn K cdPn "_law_pen" = true)
    (kPn : PySem.W.keepIn K (.ref fPn) = true)
    (aD : PySem.W.nsIn K mainGlobals "_law_draw" = some (some (.ref fD)))
    (lD : K.lookup fD = some ⟨ocD, odD, .func (PySem.W.fnOf "_law_draw" "_law_draw" (defArgs s_draw) (defBody s_draw) (defScope s_draw) .none kVD dcD pmD anD cdD ctD), slD⟩)
    (cD : PySem.W.codeIn K cdD "_law_draw" = true)
    (kD : PySem.W.keepIn K (.ref fD) = true)
    (aPk : PySem.W.nsIn K mainGlobals "_law_pick" = some (some (.ref fPk)))
    (lPk : K.lookup fPk = some ⟨ocPk, odPk, .func (PySem.W.fnOf "_law_pick" "_law_pick" (defArgs s_pick) (defBody s_pick) (defScope s_pick) .none kVPk dcPk pmPk anPk cdPk ctPk), slPk⟩)
    (cPk : PySem.W.codeIn K cdPk "_law_pick" = true)
    (kPk : PySem.W.keepIn K (.ref fPk) = true)
    (aHa : PySem.W.nsIn K mainGlobals "_law_has" = some (some (.ref fHa)))
    (lHa : K.lookup fHa = some ⟨ocHa, odHa, .func (PySem.W.fnOf "_law_has" "_law_has" (defArgs s_has) (defBody s_has) (defScope s_has) .none kVHa dcHa pmHa anHa cdHa ctHa), slHa⟩)
    (cHa : PySem.W.codeIn K cdHa "_law_has" = true)
    (kHa : PySem.W.keepIn K (.ref fHa) = true)
    (aBo : PySem.W.nsIn K mainGlobals "_law_bools" = some (some (.ref fBo)))
    (lBo : K.lookup fBo = some ⟨ocBo, odBo, .func (PySem.W.fnOf "_law_bools" "_law_bools" (defArgs s_bools) (defBody s_bools) (defScope s_bools) .none kVBo dcBo pmBo anBo cdBo ctBo), slBo⟩)
    (cBo : PySem.W.codeIn K cdBo "_law_bools" = true)
    (kBo : PySem.W.keepIn K (.ref fBo) = true)
    (aPl : PySem.W.nsIn K mainGlobals "_law_plan" = some (some (.ref fPl)))
    (lPl : K.lookup fPl = some ⟨ocPl, odPl, .func (PySem.W.fnOf "_law_plan" "_law_plan" (defArgs s_plan) (defBody s_plan) (defScope s_plan) .none kVPl dcPl pmPl anPl cdPl ctPl), slPl⟩)
    (cPl : PySem.W.codeIn K cdPl "_law_plan" = true)
    (kPl : PySem.W.keepIn K (.ref fPl) = true)
    (aIs : PySem.W.nsIn K mainGlobals "_law_is" = some (some (.ref fIs)))
    (lIs : K.lookup fIs = some ⟨ocIs, odIs, .func (PySem.W.fnOf "_law_is" "_law_is" (defArgs s_is) (defBody s_is) (defScope s_is) .none kVIs dcIs pmIs anIs cdIs ctIs), slIs⟩)
    (cIs : PySem.W.codeIn K cdIs "_law_is" = true)
    (kIs : PySem.W.keepIn K (.ref fIs) = true)
    (aIp : PySem.W.nsIn K mainGlobals "_law_in_place" = some (some (.ref fIp)))
    (lIp : K.lookup fIp = some ⟨ocIp, odIp, .func (PySem.W.fnOf "_law_in_place" "_law_in_place" (defArgs s_inp) (defBody s_inp) (defScope s_inp) .none kVIp dcIp pmIp anIp cdIp ctIp), slIp⟩)
    (cIp : PySem.W.codeIn K cdIp "_law_in_place" = true)
    (kIp : PySem.W.keepIn K (.ref fIp) = true)
    (aRi : PySem.W.nsIn K mainGlobals "_law_right" = some (some (.ref fRi)))
    (lRi : K.lookup fRi = some ⟨ocRi, odRi, .func (PySem.W.fnOf "_law_right" "_law_right" (defArgs s_right) (defBody s_right) (defScope s_right) .none kVRi dcRi pmRi anRi cdRi ctRi), slRi⟩)
    (cRi : PySem.W.codeIn K cdRi "_law_right" = true)
    (kRi : PySem.W.keepIn K (.ref fRi) = true)
    (aMa : PySem.W.nsIn K mainGlobals "_law_is_many" = some (some (.ref fMa)))
    (lMa : K.lookup fMa = some ⟨ocMa, odMa, .func (PySem.W.fnOf "_law_is_many" "_law_is_many" (defArgs s_many) (defBody s_many) (defScope s_many) .none kVMa dcMa pmMa anMa cdMa ctMa), slMa⟩)
    (cMa : PySem.W.codeIn K cdMa "_law_is_many" = true)
    (kMa : PySem.W.keepIn K (.ref fMa) = true)
    (aSh : PySem.W.nsIn K mainGlobals "_law_shared_right" = some (some (.ref fSh)))
    (lSh : K.lookup fSh = some ⟨ocSh, odSh, .func (PySem.W.fnOf "_law_shared_right" "_law_shared_right" (defArgs s_shr) (defBody s_shr) (defScope s_shr) .none kVSh dcSh pmSh anSh cdSh ctSh), slSh⟩)
    (cSh : PySem.W.codeIn K cdSh "_law_shared_right" = true)
    (kSh : PySem.W.keepIn K (.ref fSh) = true)
    (aBn : PySem.W.nsIn K mainGlobals "_law_bounds_right" = some (some (.ref fBn)))
    (lBn : K.lookup fBn = some ⟨ocBn, odBn, .func (PySem.W.fnOf "_law_bounds_right" "_law_bounds_right" (defArgs s_bnd) (defBody s_bnd) (defScope s_bnd) .none kVBn dcBn pmBn anBn (.ref kodBn) ctBn), slBn⟩)
    (cBn : PySem.W.codeIn K (.ref kodBn) "_law_bounds_right" = true)
    (kBn : PySem.W.keepIn K (.ref fBn) = true)
    (aSi : PySem.W.findIn K (.ref CS) "__init__" = some (some (.ref fSi)))
    (lSi : K.lookup fSi = some ⟨ocSi, odSi, .func (PySem.W.fnOf "__init__" "Sizes.__init__" (defArgs s_si) (defBody s_si) (defScope s_si) .none kVSi dcSi pmSi anSi cdSi ctSi), slSi⟩)
    (cSi : PySem.W.codeIn K cdSi "Sizes.__init__" = true)
    (kSi : PySem.W.keepIn K (.ref fSi) = true)
    (aEq : PySem.W.findIn K (.ref CS) "__eq__" = some (some (.ref fEq)))
    (lEq : K.lookup fEq = some ⟨ocEq, odEq, .func (PySem.W.fnOf "__eq__" "Sizes.__eq__" (defArgs s_eqS) (defBody s_eqS) (defScope s_eqS) .none kVEq dcEq pmEq anEq cdEq ctEq), slEq⟩)
    (cEq : PySem.W.codeIn K cdEq "Sizes.__eq__" = true)
    (kEq : PySem.W.keepIn K (.ref fEq) = true)
    (aBb : PySem.W.findIn K (.ref CS) "__bool__" = some (some (.ref fBb)))
    (lBb : K.lookup fBb = some ⟨ocBb, odBb, .func (PySem.W.fnOf "__bool__" "Sizes.__bool__" (defArgs s_boS) (defBody s_boS) (defScope s_boS) .none kVBb dcBb pmBb anBb cdBb ctBb), slBb⟩)
    (cBb : PySem.W.codeIn K cdBb "Sizes.__bool__" = true)
    (kBb : PySem.W.keepIn K (.ref fBb) = true)
    (aCo : PySem.W.findIn K (.ref CS) "__contains__" = some (some (.ref fCo)))
    (lCo : K.lookup fCo = some ⟨ocCo, odCo, .func (PySem.W.fnOf "__contains__" "Sizes.__contains__" (defArgs s_coS) (defBody s_coS) (defScope s_coS) .none kVCo dcCo pmCo anCo cdCo ctCo), slCo⟩)
    (cCo : PySem.W.codeIn K cdCo "Sizes.__contains__" = true)
    (kCo : PySem.W.keepIn K (.ref fCo) = true)
    (aAnd : PySem.W.findIn K (.ref CS) "__and__" = some (some (.ref fAnd)))
    (lAnd : K.lookup fAnd = some ⟨ocAnd, odAnd, .func (PySem.W.fnOf "__and__" "Sizes.__and__" (defArgs s_and) (defBody s_and) (defScope s_and) .none kVAnd dcAnd pmAnd anAnd cdAnd ctAnd), slAnd⟩)
    (cAnd : PySem.W.codeIn K cdAnd "Sizes.__and__" = true)
    (kAnd : PySem.W.keepIn K (.ref fAnd) = true)
    (aOr : PySem.W.findIn K (.ref CS) "__or__" = some (some (.ref fOr)))
    (lOr : K.lookup fOr = some ⟨ocOr, odOr, .func (PySem.W.fnOf "__or__" "Sizes.__or__" (defArgs s_or) (defBody s_or) (defScope s_or) .none kVOr dcOr pmOr anOr cdOr ctOr), slOr⟩)
    (cOr : PySem.W.codeIn K cdOr "Sizes.__or__" = true)
    (kOr : PySem.W.keepIn K (.ref fOr) = true)
    (aSub : PySem.W.findIn K (.ref CS) "__sub__" = some (some (.ref fSub)))
    (lSub : K.lookup fSub = some ⟨ocSub, odSub, .func (PySem.W.fnOf "__sub__" "Sizes.__sub__" (defArgs s_sub) (defBody s_sub) (defScope s_sub) .none kVSub dcSub pmSub anSub cdSub ctSub), slSub⟩)
    (cSub : PySem.W.codeIn K cdSub "Sizes.__sub__" = true)
    (kSub : PySem.W.keepIn K (.ref fSub) = true)
    (aXor : PySem.W.findIn K (.ref CS) "__xor__" = some (some (.ref fXor)))
    (lXor : K.lookup fXor = some ⟨ocXor, odXor, .func (PySem.W.fnOf "__xor__" "Sizes.__xor__" (defArgs s_xor) (defBody s_xor) (defScope s_xor) .none kVXor dcXor pmXor anXor cdXor ctXor), slXor⟩)
    (cXor : PySem.W.codeIn K cdXor "Sizes.__xor__" = true)
    (kXor : PySem.W.keepIn K (.ref fXor) = true)
    (aInv : PySem.W.findIn K (.ref CS) "__invert__" = some (some (.ref fInv)))
    (lInv : K.lookup fInv = some ⟨ocInv, odInv, .func (PySem.W.fnOf "__invert__" "Sizes.__invert__" (defArgs s_inv) (defBody s_inv) (defScope s_inv) .none kVInv dcInv pmInv anInv cdInv ctInv), slInv⟩)
    (cInv : PySem.W.codeIn K cdInv "Sizes.__invert__" = true)
    (kInv : PySem.W.keepIn K (.ref fInv) = true)
    (aPt : PySem.W.findIn K (.ref CS) "is_part_of" = some (some (.ref fPt)))
    (lPt : K.lookup fPt = some ⟨ocPt, odPt, .func (PySem.W.fnOf "is_part_of" "Sizes.is_part_of" (defArgs s_part) (defBody s_part) (defScope s_part) .none kVPt dcPt pmPt anPt cdPt ctPt), slPt⟩)
    (cPt : PySem.W.codeIn K cdPt "Sizes.is_part_of" = true)
    (kPt : PySem.W.keepIn K (.ref fPt) = true)
    (iFEq : PySem.W.isFn K (.ref fEq) = true)
    (iFBb : PySem.W.isFn K (.ref fBb) = true)
    (iFCo : PySem.W.isFn K (.ref fCo) = true)
    (iFAnd : PySem.W.isFn K (.ref fAnd) = true)
    (iFOr : PySem.W.isFn K (.ref fOr) = true)
    (iFSub : PySem.W.isFn K (.ref fSub) = true)
    (iFXor : PySem.W.isFn K (.ref fXor) = true)
    (iFInv : PySem.W.isFn K (.ref fInv) = true)
    (iFPt : PySem.W.isFn K (.ref fPt) = true)
    (rdCS : PySem.W.readsIn K CS (.type "type") = true)
    (gaCS : PySem.W.specialIn K (.ref CS) "__getattribute__" = some (some (.builtin "type.__getattribute__")))
    (smCS : PySem.W.findCls K (.ref CS) (.type "type") "multiples" = some (.get (.builtin "staticmethod.__get__") (.ref pMu) .none (.ref CS)))
    (aMu : PySem.W.recIn K pMu "staticmethod" = some (.ref fMu :: restMu))
    (lMu : K.lookup fMu = some ⟨ocMu, odMu, .func (PySem.W.fnOf "multiples" "Sizes.multiples" (defArgs s_mul) (defBody s_mul) (defScope s_mul) .none kVMu dcMu pmMu anMu cdMu ctMu), slMu⟩)
    (cMu : PySem.W.codeIn K cdMu "Sizes.multiples" = true)
    (kMu : PySem.W.keepIn K (.ref fMu) = true)
    (aTm : PySem.W.findIn K (.ref CM) "__init__" = some (some (.ref fTm)))
    (lTm : K.lookup fTm = some ⟨ocTm, odTm, .func (PySem.W.fnOf "__init__" "TooMany.__init__" (defArgs s_tm) (defBody s_tm) (defScope s_tm) .none kVTm dcTm pmTm anTm cdTm ctTm), slTm⟩)
    (cTm : PySem.W.codeIn K cdTm "TooMany.__init__" = true)
    (kTm : PySem.W.keepIn K (.ref fTm) = true)
    (neCS : PySem.W.findIn K (.ref CS) "__ne__" = some (some (.builtin "object.__ne__")))
    (selfCS : PySem.W.selfFirst K CS = true)
    (noAnd : Fz.noInB K CS (dunderI (Operator.info .BitAnd).2) = true)
    (noOr : Fz.noInB K CS (dunderI (Operator.info .BitOr).2) = true)
    (noSub : Fz.noInB K CS (dunderI (Operator.info .Sub).2) = true)
    (noXor : Fz.noInB K CS (dunderI (Operator.info .BitXor).2) = true)
    (pgCS : PySem.W.plainGet K CS Str.empty = true)
    (hdCS : PySem.W.hasDictIn K CS = true)
    (poCS : PySem.W.plainOver K CS = true)
    (saCS : PySem.W.findIn K (.ref CS) "__setattr__" = some (some (.builtin "object.__setattr__")))
    (naheadCS : PySem.W.findIn K (.ref CS) "ahead" = some none)
    (nagainCS : PySem.W.findIn K (.ref CS) "again" = some none)
    (haCS : PySem.W.findIn K (.ref CS) "__class__" = some (some (.builtin "object.__class__")))
    (hn : PySem.W.specialIn K (.builtin "object.__class__") "__get__" = some (some (.builtin "getset_descriptor.__get__")))
    (htk : PySem.W.takesIn K (.builtin "object.__class__") = some true)
    (hmCS : PySem.W.mroIn K CS (.type "object") = some true)
    (mkCS : PySem.W.makesIn K CS = true)
    (kpCS : PySem.W.keepIn K (.ref CS) = true)
    (iFSi : PySem.W.isFn K (.ref fSi) = true)
    (m_CS_MOST : PySem.W.findCls K (.ref CS) (.type "type") "MOST" = some (.val (.int 1000 t_CS_MOST)))
    (kt_CS_CS : PySem.W.kitOne K (.ref CS) (.ref CS) = some true)
    (gMM : PySem.W.nsIn K mainGlobals "MOST_MULTIPLE" = some (some (.int 400 tMM)))
    (gLcm : PySem.W.nsIn K mainGlobals "lcm" = some (some (.builtin "math.lcm")))
    (xBCM : K.lookup CM = some (excClassObj nmCM q_CM CM N_CM bsCM bmCM true snCM subCM abCM colCM ddCM m0CM m1CM m2CM m3CM m5CM "ValueError.__new__"))
    (rBCM : PySem.HandSPX.refsVE bmCM = true)
    (saCM : PySem.W.findIn K (.ref CM) "__setattr__" = some (some (.builtin "object.__setattr__")))
    (exCM : PySem.W.subIn K (.ref CM) (.type "BaseException") = some true)
    (tyCM : PySem.W.typeIn K (.ref CM) = some (.type "type"))
    (kpCM : PySem.W.keepIn K (.ref CM) = true)
    (npCM : PySem.W.findIn K (.ref CM) "what" = some none)
    (tfCM : PySem.W.typeIn K (.ref fTm) = some (.type "function"))
    (nmCM : PySem.W.findIn K (.ref CM) "most" = some none)
    (gaCM : PySem.W.findIn K (.ref CM) "__getattribute__" = some (some (.builtin "BaseException.__getattribute__")))
    (ggCM : PySem.W.findIn K (.ref CM) "__getattr__" = some none)
    (hdCM : PySem.W.hasDictIn K CM = true)
    (haCM : PySem.W.findIn K (.ref CM) "__class__" = some (some (.builtin "object.__class__")))
    (hmCM : PySem.W.mroIn K CM (.type "object") = some true)
    (s_CM_CM : PySem.W.subIn K (.ref CM) (.ref CM) = some true)
    (z_int : PySem.W.nsIn K mainGlobals "int" = some none)
    (z_len : PySem.W.nsIn K mainGlobals "len" = some none)
    (z_abs : PySem.W.nsIn K mainGlobals "abs" = some none)
    (z_list : PySem.W.nsIn K mainGlobals "list" = some none)
    (z_range : PySem.W.nsIn K mainGlobals "range" = some none)
    (z_isinstance : PySem.W.nsIn K mainGlobals "isinstance" = some none)
    (z_repr : PySem.W.nsIn K mainGlobals "repr" = some none)
    (z_bool : PySem.W.nsIn K mainGlobals "bool" = some none)
    (z_tuple : PySem.W.nsIn K mainGlobals "tuple" = some none)
    (z_str : PySem.W.nsIn K mainGlobals "str" = some none)
    (z_max : PySem.W.nsIn K mainGlobals "max" = some none)
    (z_min : PySem.W.nsIn K mainGlobals "min" = some none)
    (z_dict : PySem.W.nsIn K mainGlobals "dict" = some none)
    (z_set : PySem.W.nsIn K mainGlobals "set" = some none)
    (z_sorted : PySem.W.nsIn K mainGlobals "sorted" = some none)
    (z_sum : PySem.W.nsIn K mainGlobals "sum" = some none)
    (z_all : PySem.W.nsIn K mainGlobals "all" = some none)
    (z_any : PySem.W.nsIn K mainGlobals "any" = some none)
    (z_zip : PySem.W.nsIn K mainGlobals "zip" = some none)
    (z_enumerate : PySem.W.nsIn K mainGlobals "enumerate" = some none)
    (z_reversed : PySem.W.nsIn K mainGlobals "reversed" = some none)
    (aL : PySem.W.nsIn K mainGlobals "law" = some (some (.ref fL)))
    (lL : K.lookup fL = some ⟨ocL, odL, .func (PySem.W.fnOf "law" "law" (defArgs s_law) (defBody s_law) (defScope s_law) .none kVL dcL pmL anL cdL ctL), slL⟩)
    (cL : PySem.W.codeIn K cdL "law" = true)
    (kL : PySem.W.keepIn K (.ref fL) = true)
    (tcBn : K.lookup kodBn = some ⟨occBn, odccBn, .fields vscBn, slccBn⟩)
    (vPBn : vscBn[11]? = some (Value.ref PBn))
    (ttBn : K.lookup PBn = none) : LawEnd l w K 15 63 "_law_script" mg fa h := by
  have G := Tp.g
  have e := hfa.symm.trans (PySem.W.mg_of X G aL)
  cases e
  have FLp := fun_mk (st := s_lp) lLp cLp kLp
  have bLp := FLp.binds (ps := ["again"]) fun _ _ _ _ _ _ us hl => match us, hl with | [_], _ => rfl
  have FLf := fun_mk (st := s_lf) lLf cLf kLf
  have bLf := FLf.binds (ps := ["told", "begin"]) fun _ _ _ _ _ _ us hl => match us, hl with | [_, _], _ => rfl
  have FIf := fun_mk (st := s_if) lIf cIf kIf
  have bIf := FIf.binds (ps := ["value", "least"]) fun _ _ _ _ _ _ us hl => match us, hl with | [_, _], _ => rfl
  have FIr := fun_mk (st := s_ir) lIr cIr kIr
  have bIr := FIr.binds (ps := ["thing"]) fun _ _ _ _ _ _ us hl => match us, hl with | [_], _ => rfl
  have FCk := fun_mk (st := s_ck) lCk cCk kCk
  have bCk := FCk.binds (ps := ["ahead", "again"]) fun _ _ _ _ _ _ us hl => match us, hl with | [_, _], _ => rfl
  have FN := fun_mk (st := s_num) lN cN kN
  have bN := FN.binds (ps := ["value", "least", "most"]) fun _ _ _ _ _ _ us hl => match us, hl with | [_, _, _], _ => rfl
  have FFt := fun_mk (st := s_ft) lFt cFt kFt
  have bFt := FFt.binds (ps := ["told", "begin", "count"]) fun _ _ _ _ _ _ us hl => match us, hl with | [_, _, _], _ => rfl
  have FFb := fun_mk (st := s_fb) lFb cFb kFb
  have bFb := FFb.binds (ps := ["sizes", "count"]) fun _ _ _ _ _ _ us hl => match us, hl with | [_, _], _ => rfl
  have FCm := fun_mk (st := s_cm) lCm cCm kCm
  have bCm := FCm.binds (ps := ["one", "other"]) fun _ _ _ _ _ _ us hl => match us, hl with | [_, _], _ => rfl
  have FPs := fun_mk (st := s_ps) lPs cPs kPs
  have bPs := FPs.binds (ps := ["row", "ahead"]) fun _ _ _ _ _ _ us hl => match us, hl with | [_, _], _ => rfl
  have FPn := fun_mk (st := s_pen) lPn cPn kPn
  have bPn := FPn.binds (ps := ["_law_script"]) fun _ _ _ _ _ _ us hl => match us, hl with | [_], _ => rfl
  have FD := fun_mk (st := s_draw) lD cD kD
  have bD := FD.binds (ps := ["_law_pen_here", "_law_many"]) fun _ _ _ _ _ _ us hl => match us, hl with | [_, _], _ => rfl
  have FPk := fun_mk (st := s_pick) lPk cPk kPk
  have bPk := FPk.binds (ps := ["_law_pen_here", "_law_some"]) fun _ _ _ _ _ _ us hl => match us, hl with | [_, _], _ => rfl
  have FHa := fun_mk (st := s_has) lHa cHa kHa
  have bHa := FHa.binds (ps := ["_law_plan_here", "_law_size"]) fun _ _ _ _ _ _ us hl => match us, hl with | [_, _], _ => rfl
  have FBo := fun_mk (st := s_bools) lBo cBo kBo
  have bBo := FBo.binds (ps := ["_law_pen_here", "_law_most"]) fun _ _ _ _ _ _ us hl => match us, hl with | [_, _], _ => rfl
  have FPl := fun_mk (st := s_plan) lPl cPl kPl
  have bPl := FPl.binds (ps := ["_law_pen_here", "_law_most"]) fun _ _ _ _ _ _ us hl => match us, hl with | [_, _], _ => rfl
  have FIs := fun_mk (st := s_is) lIs cIs kIs
  have bIs := FIs.binds (ps := ["_law_real", "_law_bools_here"]) fun _ _ _ _ _ _ us hl => match us, hl with | [_, _], _ => rfl
  have FIp := fun_mk (st := s_inp) lIp cIp kIp
  have bIp := FIp.binds (ps := ["_law_one", "_law_other"]) fun _ _ _ _ _ _ us hl => match us, hl with | [_, _], _ => rfl
  have FRi := fun_mk (st := s_right) lRi cRi kRi
  have bRi := FRi.binds (ps := ["_law_plan_here", "_law_rival"]) fun _ _ _ _ _ _ us hl => match us, hl with | [_, _], _ => rfl
  have FMa := fun_mk (st := s_many) lMa cMa kMa
  have bMa := FMa.binds (ps := ["_law_ask"]) fun _ _ _ _ _ _ us hl => match us, hl with | [_], _ => rfl
  have FSh := fun_mk (st := s_shr) lSh cSh kSh
  have FBn := fun_mk (st := s_bnd) lBn cBn kBn
  have bBn := FBn.binds (ps := ["_law_pen_here"]) fun _ _ _ _ _ _ us hl => match us, hl with | [_], _ => rfl
  have bSh := FSh.binds (ps := []) fun _ _ _ _ _ _ us hl => match us, hl with | [], _ => rfl
  have FSi := fun_mk (st := s_si) lSi cSi kSi
  have bSi := FSi.binds (ps := ["self", "ahead", "again"]) fun _ _ _ _ _ _ us hl => match us, hl with | [_, _, _], _ => rfl
  have FEq := fun_mk (st := s_eqS) lEq cEq kEq
  have bEq := FEq.binds (ps := ["self", "other"]) fun _ _ _ _ _ _ us hl => match us, hl with | [_, _], _ => rfl
  have FBb := fun_mk (st := s_boS) lBb cBb kBb
  have bBb := FBb.binds (ps := ["self"]) fun _ _ _ _ _ _ us hl => match us, hl with | [_], _ => rfl
  have FCo := fun_mk (st := s_coS) lCo cCo kCo
  have bCo := FCo.binds (ps := ["self", "x"]) fun _ _ _ _ _ _ us hl => match us, hl with | [_, _], _ => rfl
  have FAnd := fun_mk (st := s_and) lAnd cAnd kAnd
  have bAnd := FAnd.binds (ps := ["self", "other"]) fun _ _ _ _ _ _ us hl => match us, hl with | [_, _], _ => rfl
  have FOr := fun_mk (st := s_or) lOr cOr kOr
  have bOr := FOr.binds (ps := ["self", "other"]) fun _ _ _ _ _ _ us hl => match us, hl with | [_, _], _ => rfl
  have FSub := fun_mk (st := s_sub) lSub cSub kSub
  have bSub := FSub.binds (ps := ["self", "other"]) fun _ _ _ _ _ _ us hl => match us, hl with | [_, _], _ => rfl
  have FXor := fun_mk (st := s_xor) lXor cXor kXor
  have bXor := FXor.binds (ps := ["self", "other"]) fun _ _ _ _ _ _ us hl => match us, hl with | [_, _], _ => rfl
  have FInv := fun_mk (st := s_inv) lInv cInv kInv
  have bInv := FInv.binds (ps := ["self"]) fun _ _ _ _ _ _ us hl => match us, hl with | [_], _ => rfl
  have FPt := fun_mk (st := s_part) lPt cPt kPt
  have bPt := FPt.binds (ps := ["self", "other"]) fun _ _ _ _ _ _ us hl => match us, hl with | [_, _], _ => rfl
  have FMu := fun_mk (st := s_mul) lMu cMu kMu
  have bMu := FMu.binds (ps := ["m"]) fun _ _ _ _ _ _ us hl => match us, hl with | [_], _ => rfl
  have FTm := fun_mk (st := s_tm) lTm cTm kTm
  have bTm := FTm.binds (ps := ["self", "what", "most"]) fun _ _ _ _ _ _ us hl => match us, hl with | [_, _, _], _ => rfl
  have FL := fun_mk (st := s_law) lL cL kL
  have U : Blt mg := ⟨PySem.W.mg_none_of X G z_int, PySem.W.mg_none_of X G z_len, PySem.W.mg_none_of X G z_abs, PySem.W.mg_none_of X G z_list, PySem.W.mg_none_of X G z_range, PySem.W.mg_none_of X G z_isinstance, PySem.W.mg_none_of X G z_repr, PySem.W.mg_none_of X G z_bool, PySem.W.mg_none_of X G z_tuple, PySem.W.mg_none_of X G z_str, PySem.W.mg_none_of X G z_max, PySem.W.mg_none_of X G z_min, PySem.W.mg_none_of X G z_dict, PySem.W.mg_none_of X G z_set, PySem.W.mg_none_of X G z_sorted, PySem.W.mg_none_of X G z_sum, PySem.W.mg_none_of X G z_all, PySem.W.mg_none_of X G z_any, PySem.W.mg_none_of X G z_zip, PySem.W.mg_none_of X G z_enumerate, PySem.W.mg_none_of X G z_reversed⟩
  have SC : SizC K CS := ⟨⟨pgCS, hdCS, poCS, saCS⟩, naheadCS, nagainCS⟩
  have tyS : TyC K CS := ⟨haCS, hn, htk, hmCS⟩
  have MkS : Mk K CS fSi := ⟨mkCS, aSi, iFSi, kpCS⟩
  have gSiz := (PySem.W.mg_of X G gS)
  have rdS : ClX.CRead K CS (.type "type") := ⟨rdCS, gaCS⟩
  have mostS : ∃ u, ClX.CVal K CS (.type "type") "MOST" (.int 1000) u := ⟨_, m_CS_MOST, ⟨t_CS_MOST, rfl⟩⟩
  have PM : PrgE2 K mg "TooMany" "what" "most" CM fTm := { g_ := (PySem.W.mg_of X G gM), oB := ⟨⟨_, _, _, _, _, _, _, _, _, _, _, _, _, _, _, xBCM, rBCM⟩, saCM, exCM, tyCM, kpCM⟩, nF := npCM, nG := nmCM, iB := aTm, tB := tfCM }
  have Z : PrgM K mg CM := { g_ := (PySem.W.mg_of X G gM), hit := (PySem.W.exm_ref exCM hdCM tyCM s_CM_CM), exc := ⟨gaCM, ggCM, exCM, hdCM, haCM, hn, htk, hmCM⟩, xf := ⟨gaCM, ggCM, exCM, hdCM⟩, fW := npCM, fM := nmCM }
  have htBn : PySem.W.tabIn K "_law_bounds_right" = some (kodBn, PBn) := by
    unfold PySem.W.tabIn
    rw [show PySem.W.nsIn K mainGlobals "_law_bounds_right" = some (some (.ref fBn)) from aBn]
    simp only [lBn, PySem.W.fnOf, tcBn, vPBn]
  obtain ⟨codeBn, tabBn⟩ := PySem.W.tab_of Tp X hrBn htBn
  refine ⟨PySem.W.fnOf "law" "law" (defArgs s_law) (defBody s_law) (defScope s_law) .none kVL dcL pmL anL cdL ctL, [(kodBn, PBn)], spLaw PBn K, fun q hq => ?_, fun s u => .of_eq rfl, fun H a ns few _ tabs sq => ⟨a, ns, rfl, sq, few, tabs (kodBn, PBn) List.mem_cons_self, fun _ => rfl⟩, fun base KX _ tb => ?_⟩
  · skip
    simp only [List.mem_cons, List.not_mem_nil, or_false] at hq
    have e := hq
    · cases e
      exact ⟨tabBn, ttBn, codeBn⟩
  · skip
    have cwBn : (PySem.W.fnOf "_law_bounds_right" "_law_bounds_right" (defArgs s_bnd) (defBody s_bnd) (defScope s_bnd) .none kVBn dcBn pmBn anBn (.ref kodBn) ctBn).code = .ref kodBn := PySem.W.law_code X G htBn (PySem.W.mg_of X G aBn) (X _ _ lBn) rfl
    have tbBn := tb (kodBn, PBn) List.mem_cons_self
    have G_si : FnOk l.prog w K mg base CX0 4 fSi _ ["self", "ahead", "again"] (spSizes CS) := ok_si FSi U SC FIr (PySem.W.mg_of X G aIr) bIr gSiz rdS mostS FCk (PySem.W.mg_of X G aCk) bCk FLp (PySem.W.mg_of X G aLp) bLp FLf (PySem.W.mg_of X G aLf) bLf
    have G_eqS : FnOk l.prog w K mg base CX0 1 fEq _ ["self", "other"] (spEqS K CS) := ok_eqS FEq U gSiz SC tyS kt_CS_CS
    have G_boS : FnOk l.prog w K mg base CX0 1 fBb _ ["self"] (spBoS CS) := ok_boS FBb U SC
    have G_coS : FnOk l.prog w K mg base CX0 2 fCo _ ["self", "x"] (spCoS K CS) := ok_coS FCo U SC FIf (PySem.W.mg_of X G aIf) bIf
    have G_cm : FnOk l.prog w K mg base (L2.CX l.prog w) 3 fCm _ ["one", "other"] (spCm CS CM) := ok_cm FCm U U.z_zip (PySem.W.mg_of X G gLcm) SC tyS kt_CS_CS gSiz rdS mostS FFb (PySem.W.mg_of X G aFb) bFb FFt (PySem.W.mg_of X G aFt) bFt PM FTm bTm
    have G_ps : FnOk l.prog w K mg base CX0 6 fPs _ ["row", "ahead"] (spPs CS) := ok_ps FPs gSiz MkS bSi G_si
    have G_And : FnOk l.prog w K mg base (L2.CX l.prog w) 7 fAnd _ ["self", "other"] (spBinX CS CM (fun mine yours => mine && yours)) := ok_and FAnd U FCm (PySem.W.mg_of X G aCm) bCm G_cm FPs (PySem.W.mg_of X G aPs) bPs G_ps
    have G_Or : FnOk l.prog w K mg base (L2.CX l.prog w) 7 fOr _ ["self", "other"] (spBinX CS CM (fun mine yours => mine || yours)) := ok_or FOr U FCm (PySem.W.mg_of X G aCm) bCm G_cm FPs (PySem.W.mg_of X G aPs) bPs G_ps
    have G_Sub : FnOk l.prog w K mg base (L2.CX l.prog w) 7 fSub _ ["self", "other"] (spBinX CS CM (fun mine yours => mine && !yours)) := ok_sub FSub U FCm (PySem.W.mg_of X G aCm) bCm G_cm FPs (PySem.W.mg_of X G aPs) bPs G_ps
    have G_Xor : FnOk l.prog w K mg base (L2.CX l.prog w) 7 fXor _ ["self", "other"] (spBinX CS CM (fun mine yours => mine != yours)) := ok_xor FXor U FCm (PySem.W.mg_of X G aCm) bCm G_cm FPs (PySem.W.mg_of X G aPs) bPs G_ps
    have G_inv : FnOk l.prog w K mg base CX0 7 fInv _ ["self"] (spInv CS) := ok_inv FInv U SC FPs (PySem.W.mg_of X G aPs) bPs G_ps
    have G_part : FnOk l.prog w K mg base (L2.CX l.prog w) 9 fPt _ ["self", "other"] (spPartX CS CM) := ok_part FPt U aSub selfCS iFSub G_Sub bSub aBb iFBb G_boS bBb
    have G_mul : FnOk l.prog w K mg base CX0 6 fMu _ ["m"] (spMul CS) := ok_mul FMu U FN (PySem.W.mg_of X G aN) bN (PySem.W.mg_of X G gMM) gSiz MkS bSi G_si
    have G_right : FnG l.prog w K mg base CX0 12 fRi _ ["_law_plan_here", "_law_rival"] (spRight CS) := ok_right FRi U U.z_zip SC tyS kt_CS_CS gSiz selfCS aAnd iFAnd G_And bAnd aOr iFOr G_Or bOr aSub iFSub G_Sub bSub aXor iFXor G_Xor bXor noAnd noOr noSub noXor MkS bSi G_si FHa (PySem.W.mg_of X G aHa) bHa FIs (PySem.W.mg_of X G aIs) bIs FIp (PySem.W.mg_of X G aIp) bIp ⟨aPt, iFPt, kPt⟩ G_part bPt aInv iFInv G_inv bInv aEq iFEq G_eqS bEq aCo iFCo G_coS bCo
    have G_shr : FnOk l.prog w K mg base CX0 10 fSh _ [] spShr := ok_shr FSh U SC tyS gSiz selfCS aAnd iFAnd G_And bAnd aOr iFOr G_Or bOr aSub iFSub G_Sub bSub aXor iFXor G_Xor bXor rdS smCS aMu kMu G_mul bMu aEq iFEq G_eqS bEq neCS hmCS ⟨aPt, iFPt, kPt⟩ G_part bPt aCo iFCo G_coS bCo
    have G_bnd : FnG l.prog w K mg base CX0 14 fBn _ ["_law_pen_here"] (spBnd [(PBn, lamB)]) := ok_bnd FBn cwBn tbBn List.mem_cons_self (fun p hp e => by rw [List.mem_singleton.mp hp]) U SC tyS gSiz Z FD (PySem.W.mg_of X G aD) bD FPk (PySem.W.mg_of X G aPk) bPk FMa (PySem.W.mg_of X G aMa) bMa FSh (PySem.W.mg_of X G aSh) bSh G_shr selfCS aAnd iFAnd G_And bAnd aOr iFOr G_Or bOr aSub iFSub G_Sub bSub aXor iFXor G_Xor bXor MkS bSi G_si ⟨aPt, iFPt, kPt⟩ G_part bPt aCo iFCo G_coS bCo
    exact ok_law FL U FPn (PySem.W.mg_of X G aPn) bPn FD (PySem.W.mg_of X G aD) bD FPk (PySem.W.mg_of X G aPk) bPk FBo (PySem.W.mg_of X G aBo) bBo FPl (PySem.W.mg_of X G aPl) bPl FRi (PySem.W.mg_of X G aRi) bRi G_right FBn (PySem.W.mg_of X G aBn) bBn G_bnd
end Fz
open PySem PySem.W PyProof.Rows in
set_option maxRecDepth 100000 in
set_option maxHeartbeats 0 in
theorem PySem.Challenge.cw_freetakes_k39_size_sets_joined_holds : PySem.Challenge.rw_freetakes_k39_size_sets_joined.Holds := by
  w_on; o_law; k_head; (case hw => w_witness2)
  k_fill
  refine Fz.walk_fz (l := PySem.Challenge.rw_freetakes_k39_size_sets_joined) (n := 63) (k := 15) (x := "_law_script") rfl (by decide) rfl ⟨rfl, by decide, by decide⟩ (fun w h Y => PySem.W.km_in_of Y) ?F
  case F =>
    intro w mg mb fa h lo mean KX Tp hmg
    refine' Fz.all_mk KX Tp hmg ?hrBn ?gS ?gM ?aLp ?lLp ?cLp ?kLp ?aLf ?lLf ?cLf ?kLf ?aIf ?lIf ?cIf ?kIf ?aIr ?lIr ?cIr ?kIr ?aCk ?lCk ?cCk ?kCk ?aN ?lN ?cN ?kN ?aFt ?lFt ?cFt ?kFt ?aFb ?lFb ?cFb ?kFb ?aCm ?lCm ?cCm ?kCm ?aPs ?lPs ?cPs ?kPs ?aPn ?lPn ?cPn ?kPn ?aD ?lD ?cD ?kD ?aPk ?lPk ?cPk ?kPk ?aHa ?lHa ?cHa ?kHa ?aBo ?lBo ?cBo ?kBo ?aPl ?lPl ?cPl ?kPl ?aIs ?lIs ?cIs ?kIs ?aIp ?lIp ?cIp ?kIp ?aRi ?lRi ?cRi ?kRi ?aMa ?lMa ?cMa ?kMa ?aSh ?lSh ?cSh ?kSh ?aBn ?lBn ?cBn ?kBn ?aSi ?lSi ?cSi ?kSi ?aEq ?lEq ?cEq ?kEq ?aBb ?lBb ?cBb ?kBb ?aCo ?lCo ?cCo ?kCo ?aAnd ?lAnd ?cAnd ?kAnd ?aOr ?lOr ?cOr ?kOr ?aSub ?lSub ?cSub ?kSub ?aXor ?lXor ?cXor ?kXor ?aInv ?lInv ?cInv ?kInv ?aPt ?lPt ?cPt ?kPt ?iFEq ?iFBb ?iFCo ?iFAnd ?iFOr ?iFSub ?iFXor ?iFInv ?iFPt ?rdCS ?gaCS ?smCS ?aMu ?lMu ?cMu ?kMu ?aTm ?lTm ?cTm ?kTm ?neCS ?selfCS ?noAnd ?noOr ?noSub ?noXor ?pgCS ?hdCS ?poCS ?saCS ?naheadCS ?nagainCS ?haCS ?hn ?htk ?hmCS ?mkCS ?kpCS ?iFSi ?m_CS_MOST ?kt_CS_CS ?gMM ?gLcm ?xBCM ?rBCM ?saCM ?exCM ?tyCM ?kpCM ?npCM ?tfCM ?nmCM ?gaCM ?ggCM ?hdCM ?haCM ?hmCM ?s_CM_CM ?z_int ?z_len ?z_abs ?z_list ?z_range ?z_isinstance ?z_repr ?z_bool ?z_tuple ?z_str ?z_max ?z_min ?z_dict ?z_set ?z_sorted ?z_sum ?z_all ?z_any ?z_zip ?z_enumerate ?z_reversed ?aL ?lL ?cL ?kL ?tcBn ?vPBn ?ttBn
    (case hrBn => first | rfl | kernel_rfl | k_is)
    (case gS => k_is)
    (case gM => k_is)
    (case aLp => k_is)
    (case lLp => k_is)
    (case cLp => k_is)
    (case kLp => k_is)
    (case aLf => k_is)
    (case lLf => k_is)
    (case cLf => k_is)
    (case kLf => k_is)
    (case aIf => k_is)
    (case lIf => k_is)
    (case cIf => k_is)
    (case kIf => k_is)
    (case aIr => k_is)
    (case lIr => k_is)
    (case cIr => k_is)
    (case kIr => k_is)
    (case aCk => k_is)
    (case lCk => k_is)
    (case cCk => k_is)
    (case kCk => k_is)
    (case aN => k_is)
    (case lN => k_is)
    (case cN => k_is)
    (case kN => k_is)
    (case aFt => k_is)
    (case lFt => k_is)
    (case cFt => k_is)
    (case kFt => k_is)
    (case aFb => k_is)
    (case lFb => k_is)
    (case cFb => k_is)
    (case kFb => k_is)
    (case aCm => k_is)
    (case lCm => k_is)
    (case cCm => k_is)
    (case kCm => k_is)
    (case aPs => k_is)
    (case lPs => k_is)
    (case cPs => k_is)
    (case kPs => k_is)
    (case aPn => k_is)
    (case lPn => k_is)
    (case cPn => k_is)
    (case kPn => k_is)
    (case aD => k_is)
    (case lD => k_is)
    (case cD => k_is)
    (case kD => k_is)
    (case aPk => k_is)
    (case lPk => k_is)
    (case cPk => k_is)
    (case kPk => k_is)
    (case aHa => k_is)
    (case lHa => k_is)
    (case cHa => k_is)
    (case kHa => k_is)
    (case aBo => k_is)
    (case lBo => k_is)
    (case cBo => k_is)
    (case kBo => k_is)
    (case aPl => k_is)
    (case lPl => k_is)
    (case cPl => k_is)
    (case kPl => k_is)
    (case aIs => k_is)
    (case lIs => k_is)
    (case cIs => k_is)
    (case kIs => k_is)
    (case aIp => k_is)
    (case lIp => k_is)
    (case cIp => k_is)
    (case kIp => k_is)
    (case aRi => k_is)
    (case lRi => k_is)
    (case cRi => k_is)
    (case kRi => k_is)
    (case aMa => k_is)
    (case lMa => k_is)
    (case cMa => k_is)
    (case kMa => k_is)
    (case aSh => k_is)
    (case lSh => k_is)
    (case cSh => k_is)
    (case kSh => k_is)
    (case aBn => k_is)
    (case lBn => k_is)
    (case cBn => k_is)
    (case kBn => k_is)
    (case aSi => k_is)
    (case lSi => k_is)
    (case cSi => k_is)
    (case kSi => k_is)
    (case aEq => k_is)
    (case lEq => k_is)
    (case cEq => k_is)
    (case kEq => k_is)
    (case aBb => k_is)
    (case lBb => k_is)
    (case cBb => k_is)
    (case kBb => k_is)
    (case aCo => k_is)
    (case lCo => k_is)
    (case cCo => k_is)
    (case kCo => k_is)
    (case aAnd => k_is)
    (case lAnd => k_is)
    (case cAnd => k_is)
    (case kAnd => k_is)
    (case aOr => k_is)
    (case lOr => k_is)
    (case cOr => k_is)
    (case kOr => k_is)
    (case aSub => k_is)
    (case lSub => k_is)
    (case cSub => k_is)
    (case kSub => k_is)
    (case aXor => k_is)
    (case lXor => k_is)
    (case cXor => k_is)
    (case kXor => k_is)
    (case aInv => k_is)
    (case lInv => k_is)
    (case cInv => k_is)
    (case kInv => k_is)
    (case aPt => k_is)
    (case lPt => k_is)
    (case cPt => k_is)
    (case kPt => k_is)
    (case iFEq => k_is)
    (case iFBb => k_is)
    (case iFCo => k_is)
    (case iFAnd => k_is)
    (case iFOr => k_is)
    (case iFSub => k_is)
    (case iFXor => k_is)
    (case iFInv => k_is)
    (case iFPt => k_is)
    (case rdCS => k_is)
    (case gaCS => k_is)
    (case smCS => k_is)
    (case aMu => k_is)
    (case lMu => k_is)
    (case cMu => k_is)
    (case kMu => k_is)
    (case aTm => k_is)
    (case lTm => k_is)
    (case cTm => k_is)
    (case kTm => k_is)
    (case neCS => k_is)
    (case selfCS => k_is)
    (case noAnd => first | rfl | kernel_rfl | decide +kernel)
    (case noOr => first | rfl | kernel_rfl | decide +kernel)
    (case noSub => first | rfl | kernel_rfl | decide +kernel)
    (case noXor => first | rfl | kernel_rfl | decide +kernel)
    (case pgCS => k_is)
    (case hdCS => k_is)
    (case poCS => k_is)
    (case saCS => k_is)
    (case naheadCS => k_is)
    (case nagainCS => k_is)
    (case haCS => k_is)
    (case hn => k_is)
    (case htk => k_is)
    (case hmCS => k_is)
    (case mkCS => k_is)
    (case kpCS => k_is)
    (case iFSi => k_is)
    (case m_CS_MOST => k_is)
    (case kt_CS_CS => kit_is)
    (case gMM => k_is)
    (case gLcm => k_is)
    (case xBCM => k_is)
    (case rBCM => first | rfl | decide +kernel)
    (case saCM => k_is)
    (case exCM => k_is)
    (case tyCM => k_is)
    (case kpCM => k_is)
    (case npCM => k_is)
    (case tfCM => k_is)
    (case nmCM => k_is)
    (case gaCM => k_is)
    (case ggCM => k_is)
    (case hdCM => k_is)
    (case haCM => k_is)
    (case hmCM => k_is)
    (case s_CM_CM => k_is)
    (case z_int => k_is)
    (case z_len => k_is)
    (case z_abs => k_is)
    (case z_list => k_is)
    (case z_range => k_is)
    (case z_isinstance => k_is)
    (case z_repr => k_is)
    (case z_bool => k_is)
    (case z_tuple => k_is)
    (case z_str => k_is)
    (case z_max => k_is)
    (case z_min => k_is)
    (case z_dict => k_is)
    (case z_set => k_is)
    (case z_sorted => k_is)
    (case z_sum => k_is)
    (case z_all => k_is)
    (case z_any => k_is)
    (case z_zip => k_is)
    (case z_enumerate => k_is)
    (case z_reversed => k_is)
    (case aL => k_is)
    (case lL => k_is)
    (case cL => k_is)
    (case kL => k_is)
    (case tcBn => k_is)
    (case vPBn => rfl)
    (case ttBn => first | rfl | kernel_rfl | decide +kernel)
#print axioms PySem.Challenge.cw_freetakes_k39_size_sets_joined_holds
