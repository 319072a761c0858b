import PyProof.Rows.All
import Wide.All
import OpenK.AllK
import Wide.FinOn
import PyProof.EqAt
import PyProof.EqKinds
import PyProof.TupleCall
import HandS.Base
import HandS.Call
import HandS.List
import HandS.Ends
import HandS.Exc
import HandS.ExcOwn
import HandS.ExcInit
import HandS.Lambda
import HandS.ExcField
import HandS.ExcIs
import HandS.IsInst
import HandS.EndTab
import HandS.Words
import HandS.WordsList
import HandS.WordsExc
import HandS.ClsMeth
import HandS.Wide
import HandS.Conv
import HandS.LawCells
import HandS.MakeKw
import HandS.MakeKwOnly
import KE.KCallOwn
import HandS.SlotsOwn
import HandS.FStr
import KE.IntTextLaws
import KE.KIntText
import HandS.Text
import HandS.OwnEq
import HandS.Star
import HandS.StrMore
import HandS.Iter
import HandS.Walk
import HandS.TupAny
import KE.KAssignIn
import OpenK.KMeth
import KE.DataAny
import HandS.TupMul
import HandS.Records
import HandS.Style
import HandS.Gcd
import PySem.Challenge.RW_freetakes_k68_turned_heaps_looked_at
set_option Elab.async false
set_option linter.all false
set_option maxRecDepth 100000
set_option maxHeartbeats 2000000
/-! Own layer, first part: repr of data; defs that are called where no repr is under way. -/
namespace Fz
open PySem PySem.Spec PyProof.Rows L2

/-! ### repr of lists and tuples of data -/
/-! ### defs that are called where no repr is under way -/
structure FnG (P : Program) (w : World) (K : PySem.W.Frag) (mg : Str → Option Value) (base : Heap) (CX : CXT) (k : Nat) (f : Addr) (fd : FuncData) (ps : List Str) (sp : Sp) : Prop where
  len : ∀ vs H Q E, sp vs H Q E → vs.length = ps.length
  run : ∀ (A : Around) (outer : List Env) (s : Shared) (H : Hp) (args : Args) (us : List Value) (vs : List V) (Q : VK) (E : XK), Room k A → A.guards = some [] → Env0 P w K mg base A outer s H →
    BindsTo s fd args (ps.zip us) → Vals vs us → sp vs H Q E → codeAny (model P w) A (.call (.ref f) args) (CR CX outer P w H s Q E) s
section
variable {P : Program} {w : World} {K : PySem.W.Frag} {mg : Str → Option Value} {base : Heap} {CX : CXT} {k : Nat} {f : Addr} {fd : FuncData} {ps : List Str} {sp : Sp}
/-- the rule for such a def -/
theorem fnG_of {name qual : Str} {params : Arguments} {body : List Stmt} {scope : Scope} {dV kV doc pm cdv ct oc : Value} {an od : Option Addr} {osl : Array (Option Value)} {N : List Str}
    (lk : K.lookup f = some ⟨oc, od, .func (PySem.W.fnOf name qual params body scope dV kV doc pm an cdv ct), osl⟩) (code : PySem.W.codeIn K cdv qual = true) (S : FnScope N ps scope) (len : ∀ vs H Q E, sp vs H Q E → vs.length = ps.length)
    (walk : ∀ (A : Around) (outer : List Env) (s : Shared) (H : Hp) (vs : List V) (Q : VK) (E : XK), Room k (A.deeper (envOfC qual scope s.heap.objs.size f cdv)) → A.guards = some [] → sp vs H Q E →
      ∃ t, PSs (cxOf CX P w K mg base N qual scope f cdv A outer s H E) body t ∧ t { nx := fun _ H' => Q .non H', rt := Q } (start N vs) H) :
    FnG P w K mg base CX (k + 1) f (PySem.W.fnOf name qual params body scope dV kV doc pm an cdv ct) ps sp :=
  ⟨len, fun A outer s H args us vs Q E room clear at0 binds rvs hyp => LamX.run_ofS lk code S room at0 binds rvs (len _ _ _ _ hyp) fun room' => walk A outer s H vs Q E room' clear hyp⟩
end
section
variable {X : Cx} {CX : CXT} {k : Nat} {f : Addr} {fd : FuncData} {ps : List Str} {sp : Sp} {dvs : List V} {ds : List Value} {E : XK} {x : Str} {p pos : Pos} {e : Expr} {es : List Expr} {t : TA}
end
end Fz

set_option Elab.async false
set_option linter.all false
set_option maxRecDepth 100000
set_option maxHeartbeats 4000000
/-! Own layer, second part: a caught error of an own class that a name keeps behind the except suite: it is tracked. -/
namespace Fz
open PySem PySem.Spec PyProof.Rows L2

section
variable {X : Cx} {pins : List (Addr × Obj)} {σ : L2.St} {H : Hp} {s : Shared}
end

section
variable {X : Cx} {x n : Str} {c : Value} {i : Nat} {body rest : List Stmt} {first : Stmt} {np pos pos' : Pos} {tb : WX → TS} {ts : Addr → Value → Option Addr → TS} {Wout : WX}
end
end Fz

set_option Elab.async false
set_option linter.all false
set_option maxRecDepth 100000
set_option maxHeartbeats 4000000
/-! Own layer, third part: what is asked of a tracked error: its fields, its class. -/
namespace Fz
open PySem PySem.Spec PyProof.Rows L2
section
open PySem.W
variable {prog : Program} {w : World} {A : Around} {E : Value → Shared → Prop} {s : Shared} {K : Frag} {p cl : Addr} {ob : Obj} {own : Option Obj}
end
section
variable {X : Cx}
end
end Fz

set_option Elab.async false
set_option linter.all false
set_option maxRecDepth 100000
set_option maxHeartbeats 4000000
/-! Own layer, fourth part: the end of a law's row, for a law whose defs ask for repr, its tables of code objects told. -/
namespace Fz
open PySem PySem.Spec PyProof.Rows L2
section
variable {P : Program} {w : World} {K : PySem.W.Frag} {mg mb : Str → Option Value} {s : Shared} {H : Hp}
/-- what is tracked at first: lists and empty records, none of them in the written part -/
structure First (K : PySem.W.Frag) (h : Heap) (H : Hp) : Prop where
  out : ∀ b, H b ≠ none → K.lookup b = none
  kind : ∀ b o, H b ≠ none → h.get? b = some o → (∃ its n, o.data = .seq its n) ∨ o.data = .fields #[]
theorem First.free (F : First K s.heap H) {b : Addr} {o : Obj} (get : s.heap.get? b = some o) (n1 : ∀ its n, o.data ≠ .seq its n) (n2 : o.data ≠ .fields #[]) : H b = none := by
  cases q : H b with
  | none => rfl
  | some u =>
    rcases F.kind b o (by rw [q]; exact fun z => nomatch z) get with ⟨its, n, z⟩ | z
    · exact absurd z (n1 its n)
    · exact absurd z n2
theorem First.names (F : First K s.heap H) {b : Addr} {m : Str → Option Value} (N : s.heap.Ns b m) : (hidT s.heap H).Ns b m := by
  obtain ⟨o, es, ep, get, dat, more⟩ := N
  exact ⟨o, es, ep, hidT_get get (F.free get (fun its n z => by rw [dat] at z; cases z) (fun z => by rw [dat] at z; cases z)), dat, more⟩
theorem First.part (F : First K s.heap H) (X : K.In s.heap) : K.In (hidT s.heap H) := fun b o here => hidT_get (X b o here) (by
  cases q : H b with
  | none => rfl
  | some u =>
    have z := F.out b (by rw [q]; exact fun z => nomatch z)
    rw [here] at z
    cases z)
theorem First.env (F : First K s.heap H) (X : K.In s.heap) (N : s.heap.Ns mainGlobals mg) (B : s.heap.Ns builtinsNs mb) (boot : ∀ x : Str, x ≠ "__name__" → mb x = bootBuiltins x) (lim : s.heap.NoLimit) (noGens : s.gens = #[]) (ok : HOk P w H s.heap) :
    Env0 P w K mg (hidT s.heap H) callerA [] s H where
  frames := rfl
  mod := ⟨F.part X, F.names N, ⟨mb, F.names B, boot⟩, let ⟨mc, q, r⟩ := lim; ⟨mc, F.names q, r⟩⟩
  bs := fun _ _ z => of_hidT z
  bsz := Nat.le_of_eq (hidT_size _ _)
  funs := trivial
  frf := fun b z => nomatch (show b ∈ ([] : List Addr) from z)
  hok := ok
  bare := .of_eq noGens
theorem First.table (F : First K s.heap H) (N : s.heap.Ns mainGlobals mg) {c T : Addr} (tab : s.heap.get? T = some { cls := .none, data := .fields #[] }) (code : PySem.W.CodeHd s.heap c T)
    (main : ∃ (bm : Addr) (ob : Obj), mg "__builtins__" = some (.ref bm) ∧ bm ≠ builtinsNs ∧ s.heap.get? bm = some ob ∧ ob.cls = .type "module" ∧ ob.dict = some builtinsNs ∧ ob.data = .plain) : LamX.TabB (hidT s.heap H) mg c T := by
  obtain ⟨om, es, ep, getM, datM, _⟩ := N
  refine ⟨?_, ?_, fun z => ?_⟩
  · obtain ⟨o, us, file, tf, flags, tg, inF, text, tt, get, isCode, dat, r⟩ := code
    exact ⟨o, us, file, tf, flags, tg, inF, text, tt, hidT_get get (F.free get (fun its n z => by rw [dat] at z; cases z) (fun z => by
      rw [dat] at z
      cases z
      have z2 := r.1
      simp at z2)), isCode, dat, r⟩
  · obtain ⟨bm, ob, r1, r2, r3, r4, r5, r6⟩ := main
    refine ⟨bm, ob, r1, r2, fun z => ?_, fun z => ?_, hidT_get r3 (F.free r3 (fun its n z => by rw [r6] at z; cases z) (fun z => by rw [r6] at z; cases z)), r4, r5, r6⟩
    · rw [z, getM] at r3
      cases r3
      rw [datM] at r6
      cases r6
    · rw [z, tab] at r3
      cases r3
      cases r6
  · rw [z, tab] at getM
    cases getM
    cases datM
end
/-- what a law's proof gives at the end of the top -/
def LawEnd (l : PySem.W.OpenLaw) (w : World) (K : PySem.W.Frag) (k n : Nat) (x : Str) (mg : Str → Option Value) (fa : Addr) (h : Heap) : Prop :=
  ∃ (fd : FuncData) (tabs : List (Addr × Addr)) (sp : Sp), (∀ q ∈ tabs, h.get? q.2 = some { cls := .none, data := .fields #[] } ∧ K.lookup q.2 = none ∧ PySem.W.CodeHd h q.1 q.2) ∧ (∀ (s : Shared) (u : Value), BindsTo s fd ⟨[u], []⟩ [(x, u)]) ∧
    (∀ (H : Hp) (a : Addr) (ns : List Int), ns.length ≤ n → (∀ z ∈ ns, Builtin.Int.intBits z ≤ 1048576) → (∀ q ∈ tabs, H q.2 = some (.tbl #[])) → SqL K H a (ns.map V.int) → sp [.ref a] H (fun v _ => v = .bl true) fun _ _ _ => False) ∧
    ∀ base : Heap, K.In base → base.Ns mainGlobals mg → (∀ q ∈ tabs, LamX.TabB base mg q.1 q.2) → FnG l.prog w K mg base CX0 k fa fd [x] sp
theorem law_end {l : PySem.W.OpenLaw} {w : World} {K : PySem.W.Frag} {mg mb : Str → Option Value} {k n : Nat} {fa a : Addr} {x : Str} {s : Shared} {vs : List Value} {ns : List Int}
    (X : K.In s.heap) (N : s.heap.Ns mainGlobals mg) (B : s.heap.Ns builtinsNs mb) (boot : ∀ x : Str, x ≠ "__name__" → mb x = bootBuiltins x) (lim : s.heap.NoLimit) (noGens : s.gens = #[])
    (main : ∃ (bm : Addr) (ob : Obj), mg "__builtins__" = some (.ref bm) ∧ bm ≠ builtinsNs ∧ s.heap.get? bm = some ob ∧ ob.cls = .type "module" ∧ ob.dict = some builtinsNs ∧ ob.data = .plain)
    (script : s.heap.get? a = some { cls := .type "list", data := .seq vs.toArray }) (areInts : IntsAre vs ns) (few : ns.length ≤ n) (line : n ≤ sizeLine) (bits : ∀ z ∈ ns, Builtin.Int.intBits z ≤ 1048576) (room : Room k callerA) (L : LawEnd l w K k n x mg fa s.heap) :
    codeAny (model l.prog w) callerA (.call (.ref fa) ⟨[.ref a], []⟩) (fun r s' => r = .ok (.ret (.bool true)) ∧ OldK s.heap s'.heap ∧ s'.os = s.os ∧ AllBare s'.gens) s := by
  obtain ⟨fd, tabs, sp, tab, binds, promise, fn⟩ := L
  have vals := vals_ints areInts
  have many := areInts.length
  have isTab : ∀ b ∈ tabs.map (·.2), s.heap.get? b = some { cls := .none, data := .fields #[] } := fun b hb => by
    obtain ⟨q, hq, z⟩ := List.mem_map.mp hb
    rw [← z]
    exact (tab q hq).1
  have apart : a ∉ tabs.map (·.2) := fun z => by
    have z2 := isTab a z
    rw [script] at z2
    cases z2
  have asTab : ∀ q ∈ tabs, q.2 ∈ tabs.map (·.2) := fun q hq => List.mem_map.mpr ⟨q, hq, rfl⟩
  -- from what is tracked at first: the tables, and the script where it is no object of the top
  have start_ : ∀ H : Hp, (∀ q ∈ tabs, H q.2 = some (.tbl #[])) → (∀ b, b ∉ tabs.map (·.2) → H b = none ∨ (b = a ∧ H b = some (.frz { cls := .type "list", data := .seq vs.toArray } (.lst (ns.map V.int))))) → (H a ≠ none → K.lookup a = none) → SqL K H a (ns.map V.int) →
      codeAny (model l.prog w) callerA (.call (.ref fa) ⟨[.ref a], []⟩) (fun r s' => r = .ok (.ret (.bool true)) ∧ OldK s.heap s'.heap ∧ s'.os = s.os ∧ AllBare s'.gens) s := by
    intro H onTab else_ outA read
    have cases_ : ∀ b u, H b = some u → (b ∈ tabs.map (·.2) ∧ u = .tbl #[]) ∨ (b = a ∧ u = .frz { cls := .type "list", data := .seq vs.toArray } (.lst (ns.map V.int))) := fun b u q => by
      by_cases hb : b ∈ tabs.map (·.2)
      · obtain ⟨t, ht, z⟩ := List.mem_map.mp hb
        have z2 := onTab t ht
        rw [z, q] at z2
        exact .inl ⟨hb, Option.some.inj z2⟩
      · rcases else_ b hb with z | ⟨z, z2⟩
        · rw [q] at z
          cases z
        · rw [q] at z2
          exact .inr ⟨z, Option.some.inj z2⟩
    have F : First K s.heap H := by
      refine ⟨fun b hb => ?_, fun b o hb get => ?_⟩
      · obtain ⟨u, q⟩ := Option.ne_none_iff_exists'.mp hb
        rcases cases_ b u q with ⟨z, _⟩ | ⟨z, _⟩
        · obtain ⟨t, ht, e⟩ := List.mem_map.mp z
          rw [← e]
          exact (tab t ht).2.1
        · rw [z] at hb ⊢
          exact outA hb
      · obtain ⟨u, q⟩ := Option.ne_none_iff_exists'.mp hb
        rcases cases_ b u q with ⟨z, _⟩ | ⟨z, _⟩
        · rw [isTab b z] at get
          cases get
          exact .inr rfl
        · rw [z, script] at get
          cases get
          exact .inl ⟨_, _, rfl⟩
    have ok : HOk l.prog w H s.heap := fun b u q => by
      rcases cases_ b u q with ⟨z, rfl⟩ | ⟨rfl, rfl⟩
      · exact isTab b z
      · exact ⟨script, by rw [List.length_map]; exact Nat.le_trans few line, vs, _, vals, script⟩
    have G := fn _ (F.part X) (F.names N) fun q hq => F.table N (tab q hq).1 (tab q hq).2.2 main
    refine codeAny_mono (G.run callerA [] s H ⟨[.ref a], []⟩ [.ref a] [.ref a] _ _ room rfl (F.env X N B boot lim noGens ok) (binds s (.ref a)) (.cons rfl .nil) (promise H a ns few bits onTab read)) fun r s' got => ?_
    match r, got with
    | .error _, got => exact got.elim
    | .ok .next, got => exact got.elim
    | .ok .brk, got => exact got.elim
    | .ok .cont, got => exact got.elim
    | .ok (.ret u), ⟨v, H', os, bare, un, ok', rv, fin⟩ =>
      cases (show v = .bl true from fin)
      cases (show u = Value.bool true from rv)
      have grown : ∀ b, b ∈ tabs.map (·.2) → ∃ more : Array Value, s'.heap.get? b = some { cls := .none, data := .fields more } := fun b hb => by
        obtain ⟨t, ht, e⟩ := List.mem_map.mp hb
        obtain ⟨more, z⟩ := un.tbls t.2 #[] (onTab t ht)
        rw [← e]
        exact ⟨_, ok' t.2 _ z⟩
      have kept : ∀ b o, b ∉ tabs.map (·.2) → s.heap.get? b = some o → s'.heap.get? b = some o := fun b o hb get => by
        rcases else_ b hb with z | ⟨rfl, z⟩
        · exact un.keep b o get z (fun y => nomatch (show b ∈ ([] : List Addr) from y)) (fun y => nomatch y)
        · obtain ⟨z1, _⟩ := ok b _ z
          obtain ⟨z2, _⟩ := ok' b _ (un.frzs b _ _ z)
          rw [get] at z1
          cases z1
          exact z2
      refine ⟨rfl, ⟨fun b o get => ?_, fun b o get => ?_⟩, os, bare⟩
      · by_cases hb : b ∈ tabs.map (·.2)
        · obtain ⟨more, z⟩ := grown b hb
          obtain ⟨t, ht, e⟩ := List.mem_map.mp hb
          have z0 := isTab b hb
          rw [get] at z0
          cases z0
          rw [← e] at get z ⊢
          exact .inr (.inl ⟨((tab t ht).2.2.tab get).isCodeTable, rfl, #[], more, rfl, by rw [Array.empty_append]; exact z⟩)
        · exact .inl (kept b o hb get)
      · by_cases hb : b ∈ tabs.map (·.2)
        · obtain ⟨more, z⟩ := grown b hb
          exact ⟨_, z⟩
        · exact ⟨o, kept b o hb get⟩
  cases inTop : K.lookup a with
  | some o =>
    have same := X a o inTop
    rw [script] at same
    cases same
    refine start_ (fun b => if b ∈ tabs.map (·.2) then some (.tbl #[]) else none) (fun q hq => if_pos (asTab q hq)) (fun b hb => .inl (if_neg hb)) (fun z => absurd (if_neg apart) z)
      (.inr ⟨_, vs.toArray, _, inTop, rfl, rfl, rfl, by rw [List.size_toArray, many]; exact Nat.le_trans few line, by simpa using vals⟩)
  | none =>
    refine start_ (fun b => if b ∈ tabs.map (·.2) then some (.tbl #[]) else if b = a then some (.frz { cls := .type "list", data := .seq vs.toArray } (.lst (ns.map V.int))) else none) (fun q hq => if_pos (asTab q hq)) (fun b hb => ?_) (fun _ => inTop)
      (.inl (.inr ⟨_, (if_neg apart).trans (if_pos rfl)⟩))
    by_cases ba : b = a
    · exact .inr ⟨ba, (if_neg hb).trans (if_pos ba)⟩
    · exact .inl ((if_neg hb).trans (if_neg ba))
/-- the goal that k_head leaves -/
theorem walk_fz {l : PySem.W.OpenLaw} {n k : Nat} {q : Program} {loose : List Str} {XP : (Str → Option Value) → Heap → Prop} {YP : World → Heap → Prop} {d : DefRec} {K : Params → PySem.W.Frag} {x : Str}
    (most : l.most = some n) (line : n ≤ sizeLine) (noDef : d.params.defaults = []) (room : Room k callerA) (part : ∀ (w : World) (h : Heap), YP w h → (K w.params).In h)
    (F : ∀ (w : World) (mg mb : Str → Option Value) (fa : Addr) (h : Heap) (lo : List Str) (mean : ExcName → Option Value), (K w.params).In h → Top q lo mean mg mb h → mg d.name = some (.ref fa) → LawEnd l w (K w.params) k n x mg fa h) :
    PySem.W.WalkO q loose XP YP l.row.toRowW d [] (fun f vs => PySem.call f vs) :=
  Att.attach_callB most noDef fun w _ s₁ mg mb fa _ _ _ _ _ vs ns G Y _ _ _ hmg script areInts few bits noGens =>
    law_end (part w _ Y) G.T.g G.T.b G.T.builtins G.T.nolimit noGens G.T.bmain script areInts few line bits room (F w mg mb fa _ _ _ (part w _ Y) G.T hmg)
end Fz

set_option Elab.async false
set_option linter.all false
set_option maxRecDepth 100000
set_option maxHeartbeats 4000000
/-! Own layer, fifth part: a def read off a class and called; values of any kind; numbers within bounds; data of lists. -/
namespace Fz
open PySem PySem.Spec PyProof.Rows L2
section
variable {X : Cx} {CX : CXT} {k : Nat} {C g : Addr} {mc : Value} {fd : FuncData} {ps : List Str} {sp : Sp} {dvs : List V} {ds : List Value} {E : XK} {o e : Expr} {es : List Expr} {m : Str} {pos apos : Pos} {ta : TE} {t : TA} {pl : Sem Bool}
/-- C.m(e, ..), C a class, m a def of it or of one above it -/
def tClsFn (C : Addr) (sp : Sp) (dvs : List V) (E : XK) (ta : TE) (t : TA) : TE := fun σ H Q => ta σ H fun x H1 => x = .ref C ∧ t σ H1 fun vs H2 => sp (vs ++ dvs) H2 Q E
theorem pe_clsFn (he : PE X o ta) (r : ClX.CRead X.K C mc) (found : PySem.W.findCls X.K (.ref C) mc m = some (.val (.ref g))) (F : FnOk X.prog X.w X.K X.mg X.base CX k g fd ps sp) (room : Room k X.A) (keep : PySem.W.keepIn X.K (.ref g) = true) (binds : L2.Binds X.K fd ps ds) (rd : Vals dvs ds)
    (pass : Passes CX X E) (ha : PA X (e :: es) t) (star : starEach (e :: es) X.env = (false, eval e X.env) :: starEach es X.env := by rfl) (plain : (backTo pos (starEach es X.env)).any (·.1) = false := by rfl)
    (tree : eval (.Call (.Attribute o m apos) (e :: es) [] pos) X.env = (do
      let ov ← eval o X.env
      standAt apos.atName
      let (f, first) ← holding [ov] (getMethod ov m pl)
      callWith pos f first (backTo pos (starEach (e :: es) X.env)) (backToKw pos (keywordEach [] X.env))) := by rfl) :
    PE X (.Call (.Attribute o m apos) (e :: es) [] pos) (tClsFn C sp dvs E ta t) := by
  refine ⟨fun pins s σ H Q I hyp => PySem.W.methodCall_KW (pl := pl) (thn (he.run pins s σ H _ I hyp) fun u s1 ⟨x, H1, I1, rx, isC, rest⟩ => ?_) tree⟩
  subst isC
  obtain rfl : u = Value.ref C := rx
  refine PySem.W.method_cls I1.kIn r.ga (PySem.W.cls_value I1.kIn r.rd found rfl ?_)
  have I2 := I1.tok (s1.toks + 1)
  exact PySem.W.callWith_K (first := []) (h₀ := X.base) I2.ok.mod.kin keep (thn (ha.run pos pins _ σ H1 _ I2 rest) fun us s3 ⟨vs, H3, I3, rv, fin⟩ => ⟨I3.kIn, run_fn F room binds rd pass I3 rv fin⟩) star plain
end

/-! ### values of any kind -/
/-- of a built-in kind, what it holds left open -/
def Kd (H : Hp) : V → Prop
  | .non | .bl _ | .int _ | .str _ => True
  | .ref a => (∃ xs, H a = some (.tup xs)) ∨ (∃ xs, H a = some (.lst xs)) ∨ ∃ kvs, H a = some (.dK kvs)
  | _ => False
def isIntV : V → Bool
  | .int _ => true
  | .bl _ => true
  | _ => false
def isBlV : V → Bool
  | .bl _ => true
  | _ => false
theorem Kd.isInt {K : PySem.W.Frag} {H : Hp} {x : V} (h : Kd H x) : ∃ t, TyX K H x t ∧ PySem.W.kitOne K t (.type "int") = some (isIntV x) ∧ PySem.W.kitOne K t (.type "bool") = some (isBlV x) := by
  cases x with
  | non => exact ⟨_, .base .non, kit_ty (show kitB "NoneType" "int" = some false by decide +kernel), kit_ty (show kitB "NoneType" "bool" = some false by decide +kernel)⟩
  | bl b => exact ⟨_, .base (.bl b), kit_ty (show kitB "bool" "int" = some true by decide +kernel), kit_ty (show kitB "bool" "bool" = some true by decide +kernel)⟩
  | int i => exact ⟨_, .base (.int i), kit_ty (show kitB "int" "int" = some true by decide +kernel), kit_ty (show kitB "int" "bool" = some false by decide +kernel)⟩
  | str z => exact ⟨_, .base (.str z), kit_ty (show kitB "str" "int" = some false by decide +kernel), kit_ty (show kitB "str" "bool" = some false by decide +kernel)⟩
  | ref a =>
    rcases h with ⟨xs, h⟩ | ⟨xs, h⟩ | ⟨kvs, h⟩
    · exact ⟨_, .base (.tup h), kit_ty (show kitB "tuple" "int" = some false by decide +kernel), kit_ty (show kitB "tuple" "bool" = some false by decide +kernel)⟩
    · exact ⟨_, .base (.lst h), kit_ty (show kitB "list" "int" = some false by decide +kernel), kit_ty (show kitB "list" "bool" = some false by decide +kernel)⟩
    · exact ⟨_, .base (.dK h), kit_ty (show kitB "dict" "int" = some false by decide +kernel), kit_ty (show kitB "dict" "bool" = some false by decide +kernel)⟩
  | byt _ => exact h.elim
  | flt _ => exact h.elim
  | ty _ => exact h.elim
/-- an int (no bool) within bounds -/
def numV (lo hi : Int) : V → Bool
  | .int i => decide (lo ≤ i) && decide (i ≤ hi)
  | _ => false
theorem numV_is {lo hi : Int} {x : V} (h : numV lo hi x = true) : ∃ i, x = .int i ∧ lo ≤ i ∧ i ≤ hi := by
  cases x with
  | int i =>
    obtain ⟨a, b⟩ := Bool.and_eq_true_iff.mp h
    exact ⟨i, rfl, of_decide_eq_true a, of_decide_eq_true b⟩
  | _ => exact absurd (show false = true from h) Bool.false_ne_true
theorem small_log {m : Int} (h0 : 0 < m) (h1 : m ≤ 10 ^ 40) : m.natAbs.log2 < 9000 := by
  have h2 : m.natAbs < 2 ^ 9000 := Nat.lt_of_le_of_lt (show m.natAbs ≤ 10 ^ 40 by omega) (by decide +kernel)
  exact (Nat.log2_lt (by omega)).mpr h2

/-! ### data -/
theorem dp_ints {K : PySem.W.Frag} {H : Hp} : ∀ ns : List Int, DpAll K H (ns.map V.int) (ns.map PyData.int)
  | [] => .nil
  | n :: ns => .cons (.int n) (dp_ints ns)
theorem lay_ints : ∀ ns : List Int, PyData.canLayAll0 (ns.map PyData.int) = true
  | [] => by simp only [List.map_nil, PyData.canLayAll0]
  | n :: ns => by
    have ih := lay_ints ns
    simp only [List.map_cons, PyData.canLayAll0, PyData.canLay0, ih, Bool.and_self]
theorem depth_ints : ∀ ns : List Int, PyData.depthAll (ns.map PyData.int) ≤ 1
  | [] => by simp only [List.map_nil, PyData.depthAll]; omega
  | n :: ns => by
    have ih := depth_ints ns
    simp only [List.map_cons, PyData.depthAll, PyData.depth]
    omega
theorem shaped_ints (ns : List Int) : SeqAt.shaped (.list (ns.map PyData.int)) = true := by
  have h1 := depth_ints ns
  have h2 : PyData.depth (.list (ns.map PyData.int)) ≤ 64 := by
    simp only [PyData.depth]
    omega
  show (PyData.canLay0 (.list (ns.map PyData.int)) && decide (PyData.depth (.list (ns.map PyData.int)) ≤ 64)) = true
  rw [Bool.and_eq_true]
  exact ⟨by simp only [PyData.canLay0]; exact lay_ints ns, decide_eq_true h2⟩
theorem at_mod {xs : List V} (i : Int) (h : 0 < xs.length) : ∃ x, x ∈ xs ∧ atI xs (i % (xs.length : Int)) = some x := by
  have hp := mod_place (i := i) h
  have e : xs[(i % (xs.length : Int)).toNat]? = some xs[(i % (xs.length : Int)).toNat] := List.getElem?_eq_getElem hp.1
  refine ⟨_, List.getElem_mem hp.1, ?_⟩
  have z := atI_nat e
  rw [hp.2] at z
  exact z
theorem at_in {xs : List V} {i : Int} (h0 : 0 ≤ i) (h1 : i < xs.length) : ∃ x, x ∈ xs ∧ atI xs i = some x := by
  have hn : i.toNat < xs.length := by omega
  have e : xs[i.toNat]? = some xs[i.toNat] := List.getElem?_eq_getElem hn
  refine ⟨_, List.getElem_mem hn, ?_⟩
  have z := atI_nat e
  rw [show ((i.toNat : Nat) : Int) = i by omega] at z
  exact z
end Fz

set_option Elab.async false
set_option linter.all false
set_option maxRecDepth 100000
set_option maxHeartbeats 4000000
/-! Own layer, sixth part: the text of a list of numbers is short. -/
namespace Fz
open PySem PySem.Spec PyProof.Rows L2
section
variable {X : Cx} {e : Expr} {t : TE}
/-- a reading, closed -/
structure Box (t : TE) (σ : L2.St) (H : Hp) (Q : VK) : Prop where
  open_ : t σ H Q
theorem pe_box (h : PE X e t) : PE X e (Box t) := ⟨fun pins s σ H Q I h' => h.run pins s σ H Q I h'.open_⟩
end
/-- the rule for a def of the law that may ask for repr -/
theorem funG {P : Program} {w : World} {K : PySem.W.Frag} {mg : Str → Option Value} {base : Heap} {x qual : Str} {st : Stmt} {f : Addr} {fd : FuncData} {N ps : List Str} {k : Nat} {sp : Sp} (F : Fun K x qual st f fd) (S : FnScope N ps (defScope st)) (len : ∀ vs H Q E, sp vs H Q E → vs.length = ps.length)
    (walk : ∀ (cdv : Value) (A : Around) (outer : List Env) (s : Shared) (H : Hp) (vs : List V) (Q : VK) (E : XK), fd.code = cdv → Room k (A.deeper (envOfC qual (defScope st) s.heap.objs.size f cdv)) → A.guards = some [] → sp vs H Q E →
      ∃ t, PSs (cxOf CX0 P w K mg base N qual (defScope st) f cdv A outer s H E).nox (defBody st) t ∧ t { nx := fun _ H' => Q .non H', rt := Q } (start N vs) H) : FnG P w K mg base CX0 (k + 1) f fd ps sp := by
  obtain ⟨oc, od, kV, doc, pm, an, cdv, ct, osl, rfl, lk, code⟩ := F.ex
  refine fnG_of lk code S len fun A outer s H vs Q E room clear h => ?_
  obtain ⟨t, ht, hq⟩ := walk cdv A outer s H vs Q E rfl room clear h
  exact ⟨t, ht.nox, hq⟩
end Fz

set_option Elab.async false
set_option linter.all false
set_option maxRecDepth 100000
set_option maxHeartbeats 2000000
/-! Own layer, seventh part: the words of the laws on rules: the pen, numbers, errors, rules, what is heard. -/
namespace Fz
open PySem PySem.Spec PyProof.Rows L2
/-- at p: the pen, of which at most n draws were made -/
def PenAt (n : Nat) (H : Hp) (p q : Addr) : Prop := ∃ (ns : List Int) (spot great : Int), H p = some (.lst [.ref q, .int spot, .int great]) ∧ H q = some (.lst (ns.map V.int)) ∧ q ≠ p ∧ ns.length ≤ 63 ∧ 0 ≤ spot ∧ spot ≤ n
/-- all but what stands at p is as it was -/
def Mv (p : Addr) (H H' : Hp) : Prop := ∀ b o, b ≠ p → H b = some o → H' b = some o
theorem Mv.trans {p : Addr} {H H1 H2 : Hp} (a : Mv p H H1) (b : Mv p H1 H2) : Mv p H H2 := fun c o n z => b c o n (a c o n z)
theorem Mv.new {p l : Addr} {H : Hp} {o : HO} (h : H l = none) : Mv p H (upd H l o) := fun b u _ z => by
  rw [upd_ne (ne_of_none z h)]
  exact z
theorem Mv.here {p : Addr} {H : Hp} {o : HO} : Mv p H (upd H p o) := fun b u n z => by
  rw [upd_ne n]
  exact z
theorem PenAt.there {n : Nat} {H : Hp} {p q : Addr} (h : PenAt n H p q) : H p ≠ none ∧ H q ≠ none := by
  obtain ⟨_, _, _, a, b, _⟩ := h
  exact ⟨fun z => (by rw [a] at z; cases z), fun z => (by rw [b] at z; cases z)⟩
theorem PenAt.fresh {n : Nat} {H : Hp} {p q l : Addr} (h : PenAt n H p q) (hl : H l = none) : l ≠ p ∧ l ≠ q := by
  obtain ⟨a, b⟩ := h.there
  exact ⟨fun z => a (z ▸ hl), fun z => b (z ▸ hl)⟩
theorem PenAt.keep {n m : Nat} {H H' : Hp} {p q : Addr} (h : PenAt n H p q) (le : n ≤ m) (kp : H' p = H p) (kq : H' q = H q) : PenAt m H' p q := by
  obtain ⟨ns, spot, great, a, b, c, d, e, f⟩ := h
  exact ⟨ns, spot, great, by rw [kp]; exact a, by rw [kq]; exact b, c, d, e, by omega⟩
theorem PenAt.put {n : Nat} {H : Hp} {p q l : Addr} {o : HO} (h : PenAt n H p q) (hp : l ≠ p) (hq : l ≠ q) : PenAt n (upd H l o) p q := h.keep (Nat.le_refl _) (upd_ne (Ne.symm hp)) (upd_ne (Ne.symm hq))
theorem PenAt.new {n : Nat} {H : Hp} {p q l : Addr} {o : HO} (h : PenAt n H p q) (hl : H l = none) : PenAt n (upd H l o) p q := h.put (h.fresh hl).1 (h.fresh hl).2
theorem PenAt.same {n : Nat} {H H' : Hp} {p q : Addr} (h : PenAt n H p q) (s : Same H H') : PenAt n H' p q := by
  obtain ⟨ns, spot, great, a, b, c⟩ := h
  exact ⟨ns, spot, great, s _ _ a, s _ _ b, c⟩
theorem PenAt.more {n m : Nat} {H : Hp} {p q : Addr} (h : PenAt n H p q) (le : n ≤ m) : PenAt m H p q := h.keep le rfl rfl
theorem PenAt.lst {n : Nat} {H : Hp} {p q : Addr} (h : PenAt n H p q) : ∃ xs, H p = some (.lst xs) := by
  obtain ⟨_, _, _, a, _⟩ := h
  exact ⟨_, a⟩
/-- the names that the laws mean as Python means them -/
structure Blt (mg : Str → Option Value) : Prop where
  z_int : mg "int" = none
  z_len : mg "len" = none
  z_abs : mg "abs" = none
  z_list : mg "list" = none
  z_range : mg "range" = none
  z_isinstance : mg "isinstance" = none
  z_repr : mg "repr" = none
  z_bool : mg "bool" = none
  z_tuple : mg "tuple" = none
  z_str : mg "str" = none
  z_max : mg "max" = none
  z_min : mg "min" = none
  z_dict : mg "dict" = none
  z_set : mg "set" = none
  z_sorted : mg "sorted" = none
  z_sum : mg "sum" = none
  z_all : mg "all" = none
  z_any : mg "any" = none
  z_zip : mg "zip" = none
  z_enumerate : mg "enumerate" = none
  z_reversed : mg "reversed" = none
def spPen (K : PySem.W.Frag) : Sp := fun vs H Q _ => ∃ (a : Addr) (ns : List Int), vs = [.ref a] ∧ SqL K H a (ns.map V.int) ∧ ns.length ≤ 63 ∧ ∀ H' p q, H p = none → H q = none → PenAt 0 H' p q → Same H H' → Q (.ref p) H'
def spDraw : Sp := fun vs H Q _ => ∃ (n : Nat) (p q : Addr) (m : Int), vs = [.ref p, .int m] ∧ PenAt n H p q ∧ n < 100000 ∧ 0 < m ∧ m.natAbs.log2 < 9000 ∧ ∀ H' r, PenAt (n + 1) H' p q → Mv p H H' → 0 ≤ r → r < m → Q (.int r) H'
def spPick (K : PySem.W.Frag) : Sp := fun vs H Q _ => ∃ (n : Nat) (p q l : Addr) (xs : List V), vs = [.ref p, .ref l] ∧ PenAt n H p q ∧ n < 100000 ∧ l ≠ p ∧ H l = some (.lst xs) ∧ 0 < xs.length ∧ xs.length ≤ 1000 ∧ ∀ H' x, PenAt (n + 1) H' p q → Mv p H H' → x ∈ xs → Q x H'
/-- the rank of a rule -/
def rankI (k a b c e : Int) : Int := (((k * 401 + a) * 401 + b) * 401 + c) * 401 + e
def spRank : Sp := fun vs H Q _ => ∃ k a b c e : Int, vs = [.int k, .int a, .int b, .int c, .int e] ∧ 0 ≤ k ∧ k ≤ 1 ∧ 0 ≤ a ∧ a ≤ 400 ∧ 0 ≤ b ∧ b ≤ 400 ∧ 0 ≤ c ∧ c ≤ 400 ∧ 0 ≤ e ∧ e ≤ 400 ∧ ∀ H', Same H H' → Q (.int (rankI k a b c e)) H'
def dfs (t r m k : Int) : List (Str × V) := putF "rank" (.int k) (putF "start" (.int (t + 1)) (putF "to" (.int t) (putF "modulus" (.int m) (putF "rest" (.int r) []))))
def ffs (s r m l k : Int) : List (Str × V) := putF "rank" (.int k) (putF "start" (.int (s + l)) (putF "modulus" (.int m) (putF "rest" (.int r) (putF "leave" (.int l) (putF "size" (.int s) [])))))
/-- a class whose maker is called by name -/
structure BaseC (K : PySem.W.Frag) (C f : Addr) : Prop where
  rd : ClX.CRead K C (.type "type")
  fn : PySem.W.findCls K (.ref C) (.type "type") "__init__" = some (.val (.ref f))
/-- a class of rules -/
structure InsC (K : PySem.W.Frag) (C : Addr) : Prop where
  cl : Cls K C
  nTo : NoAttr K C "to"
  nSize : NoAttr K C "size"
  nLeave : NoAttr K C "leave"
  nRest : NoAttr K C "rest"
  nModulus : NoAttr K C "modulus"
  nStart : NoAttr K C "start"
  nRank : NoAttr K C "rank"
/-- isinstance may be asked of its objects -/
structure TyC (K : PySem.W.Frag) (C : Addr) : Prop where
  ga : PySem.W.findIn K (.ref C) "__class__" = some (some (.builtin "object.__class__"))
  gn : PySem.W.specialIn K (.builtin "object.__class__") "__get__" = some (some (.builtin "getset_descriptor.__get__"))
  gt : PySem.W.takesIn K (.builtin "object.__class__") = some true
  gm : PySem.W.mroIn K C (.type "object") = some true
theorem TyC.ty {K : PySem.W.Frag} {C x dx : Addr} {H : Hp} {fs : List (Str × V)} (t : TyC K C) (c : Cls K C) (h : H x = some (.ins C dx fs)) : TyX K H (.ref x) (.ref C) := .base (.ins h c t.ga t.gn t.gt t.gm)
theorem numV_of {lo hi i : Int} (h0 : lo ≤ i) (h1 : i ≤ hi) : numV lo hi (.int i) = true := by
  show (decide (lo ≤ i) && decide (i ≤ hi)) = true
  rw [decide_eq_true h0, decide_eq_true h1] <;> rfl
theorem made_same {H H' : Hp} {x dx C : Addr} (hx : H x = none) (hd : H dx = none) (m : Mv x (upd (upd H dx (.own x)) x (.ins C dx [])) H') : Same H H' := fun b o e => by
  have n1 := ne_of_none e hx
  have n2 := ne_of_none e hd
  exact m b o n1 (by rw [upd_ne n1, upd_ne n2]; exact e)
theorem Same.new {H : Hp} {l : Addr} {o : HO} (h : H l = none) : Same H (upd H l o) := fun b u e => by
  rw [upd_ne (ne_of_none e h)]
  exact e
theorem Same.mv {H H' : Hp} (s : Same H H') (p : Addr) : Mv p H H' := fun b o _ e => s b o e
end Fz
set_option Elab.async false
set_option linter.all false
set_option maxRecDepth 100000
set_option maxHeartbeats 2000000
/-! Own layer, eighth part: rules made, and what is heard of their making. -/
namespace Fz
open PySem PySem.Spec PyProof.Rows L2
section
variable {C CB : Addr} {due : Option Str} {fs : Int → List (Str × V)} {H H' : Hp} {v : V}
end
section
variable {CD CB : Addr} {H : Hp} {Q : VK} {t r m z l : V} {x dx : Addr}
theorem up_made {C : Addr} (hx : H x = none) (hd : H dx = none) : Same H (upd (upd H dx (.own x)) x (.ins C dx [])) := fun b o e => by rw [upd_ne (ne_of_none e hx), upd_ne (ne_of_none e hd)]; exact e
end
end Fz

set_option Elab.async false
set_option linter.all false
set_option maxRecDepth 100000
set_option maxHeartbeats 2000000
/-! Own layer, ninth part: == and != of an instance by its class's own __eq__; str of an instance by its own __str__. -/
namespace Fz
open PySem PySem.Spec PyProof.Rows L2
section
variable {prog : Program} {w : World} {A : Around} {E : Value → Shared → Prop} {s : Shared} {K : PySem.W.Frag} {x C f : Addr} {ox : Obj} {od : Option Obj} {b tb : Value}
theorem bound_ne {M : Model} {args : List Value} {Q : Option Value → Shared → Prop} (X : K.In s.heap) (J : PySem.W.InstAt s.heap x ox C od) (slot : PySem.W.findIn K (.ref C) "__ne__" = some (some (.builtin "object.__ne__")))
    (called : wpAny M A (call (.builtin "object.__ne__") (.ref x :: args)) (fun v => Q (some v)) E s) : wpAny M A (callSpecialIfBound? (.ref x) "__ne__" args) Q E s := by
  simp only [callSpecialIfBound?, bindSpecialIfBound?]
  refine wpAny_holding <| wpAny_bind <| wpAny_bind <| wpAny_bind <| J.type.here <| (PySem.W.looks_findIn X slot).here ?_
  refine wpAny_bind <| wpAny_askSetting <| wpAny_ite ?_
  have end_ : wpAny M A (call (.builtin "object.__ne__") ([.ref x] ++ args) >>= fun v => pure (some v)) Q E s := wpAny_bind (wpAny_mono called (fun _ _ z => wpAny_pure z) fun _ _ z => z)
  split
  · exact wpAny_bind (wpAny_of_eq (F.cmp_object.ne.bind _) <| wpAny_pure (by exact end_))
  · exact wpAny_tryCatch (wpAny_bind (wpAny_of_eq (F.cmp_object.ne.bind _) <| wpAny_pure (by exact end_)))
theorem body_ne {Q : Fin → Shared → Prop} (room : A.units < cLine) (X : K.In s.heap) (J : PySem.W.InstAt s.heap x ox C od) (own : PySem.W.findIn K (.ref C) "__eq__" = some (some (.ref f))) (isF : PySem.W.isFn K (.ref f) = true)
    (called : wpAny (model prog w) A (call (.ref f) [.ref x, b]) (fun v s' => ∃ c, v = .bool c ∧ Q (.done (.ret (.bool (!c)))) s') E s) : wpAny (model prog w) A (Builtin.«object.__ne__» ⟨[.ref x, b], []⟩) Q E s := by
  unfold Builtin.«object.__ne__»
  repeat (first
    | with_reducible refine wpAny_cRoomFor room ?_
    | (refine wpAny_bind (m := callSpecialIfBound? (.ref x) (Str.ofString "__eq__") [b]) (PySem.W.ifBound_K X J own isF (wpAny_mono called (fun r s' z => by
          obtain ⟨c, rfl, q⟩ := z
          repeat (first | exact q | exact wpAny_pure q | exact wpAny_truthy_bool q | (refine wpAny_bind (m := truthy (.bool _)) (wpAny_truthy_bool ?_)) | wp_step)) fun _ _ z => z)))
    | wp_step)
theorem ne_own {Q : Value → Shared → Prop} (room : A.units + 1 < cLine) (X : K.In s.heap) (J : PySem.W.InstAt s.heap x ox C od) (isTb : PySem.W.Looks (model prog w) s.heap (typeOf b) tb) (first_ : PySem.W.notFirst K C tb = true)
    (slot : PySem.W.findIn K (.ref C) "__ne__" = some (some (.builtin "object.__ne__"))) (hm : PySem.W.mroIn K C (.type "object") = some true) (own : PySem.W.findIn K (.ref C) "__eq__" = some (some (.ref f))) (isF : PySem.W.isFn K (.ref f) = true)
    (called : wpAny (model prog w) A.in1 (call (.ref f) [.ref x, b]) (fun v s' => ∃ c, v = .bool c ∧ Q (.bool (!c)) s') E s) : wpAny (model prog w) A (richCompare .NotEq (.ref x) b) Q E s := by
  have one : wpAny (model prog w) A (tryCompare (.ref x) "__ne__" b) (fun r s' => ∃ v, r = some v ∧ Q v s') E s := by
    unfold tryCompare
    refine wpAny_bind <| bound_ne X J slot ?_
    refine wpAny_call <| codeAny_call_builtin F.cmp_object.ne.plain F.cmpEntry_ne <| PySem.W.check_slot F.cmpKind_ne F.cmpSplit_ne (J.type.andThen (PySem.W.looks_mroIn X hm)) (F.cmpArgs_ne _ _) ?_
    refine body_ne (A := A.in1) room X J own isF <| wpAny_mono called (fun v s' z => ?_) fun _ _ z => z
    obtain ⟨c, rfl, q⟩ := z
    exact ⟨c, rfl, wpAny_pure ⟨_, rfl, q⟩⟩
  unfold richCompare
  simp only [oneThing_ref]
  refine wpAny_holding <| wpAny_bind <| wpAny_cRoomFor (Nat.lt_of_succ_lt room) ?_
  rw [cmpInfo_NotEq]
  refine wpAny_bind <| J.type.here <| wpAny_bind <| isTb.here ?_
  split
  · rename_i q
    have below : PySem.W.subIn K tb (.ref C) = some false := by
      rcases Bool.or_eq_true_iff.mp first_ with z | z
      · rw [beq_iff_eq.mp z] at q
        simp at q
      · exact beq_iff_eq.mp z
    refine wpAny_bind <| (PySem.W.looks_subIn X below).here ?_
    simp only [Bool.false_eq_true, if_false]
    refine wpAny_bind <| wpAny_mono one (fun r s' z => ?_) fun _ _ z => z
    obtain ⟨v, rfl, q⟩ := z
    exact wpAny_pure q
  · refine wpAny_bind <| wpAny_pure ?_
    simp only [Bool.false_eq_true, if_false]
    refine wpAny_bind <| wpAny_mono one (fun r s' z => ?_) fun _ _ z => z
    obtain ⟨v, rfl, q⟩ := z
    exact wpAny_pure q
end
section
variable {X : Cx} {C f : Addr} {fd : FuncData} {ps : List Str} {sp : Sp} {k : Nat}
/-- x != y of the same -/
def rNeO (K : PySem.W.Frag) (C : Addr) (sp : Sp) : R2 := fun x y H Q => ∃ (a dx : Addr) (fs : List (Str × V)) (t : Value), x = .ref a ∧ H a = some (.ins C dx fs) ∧ TyX K H y t ∧ PySem.W.notFirst K C t = true ∧ sp [x, y] H (fun z H' => ∃ c, z = .bl c ∧ Q (.bl (!c)) H') E0
theorem op_neO (own : PySem.W.findIn X.K (.ref C) "__eq__" = some (some (.ref f))) (isF : PySem.W.isFn X.K (.ref f) = true) (slot : PySem.W.findIn X.K (.ref C) "__ne__" = some (some (.builtin "object.__ne__"))) (hm : PySem.W.mroIn X.K C (.type "object") = some true)
    (F : FnOk X.prog X.w X.K X.mg X.base CX0 k f fd ps sp) (binds : L2.Binds X.K fd ps []) (room : Room (k + 1) X.A) : OpR X (compareOp .NotEq) (rNeO X.K C sp) := by
  intro pins s σ H x y v u Q I rx ry h
  obtain ⟨a, dx, fs, t, rfl, ha, ty, nf, q⟩ := h
  cases (show v = Value.ref a from rx)
  obtain ⟨mA, O, _⟩ := ins_get I.hok ha
  obtain ⟨od, J, _⟩ := O.look
  obtain ⟨P, Z, p, _⟩ := kit_of I ry ty
  show wpAny _ _ (richCompare .NotEq (.ref a) u) _ _ _
  have r2 : Vals [V.ref a, y] [Value.ref a, u] := .cons rfl (.cons ry .nil)
  have many : ([Value.ref a, u] ++ ([] : List Value)).length = ps.length := r2.length.symm.trans (F.len _ _ _ _ q)
  refine ne_own (tb := t) (by have := room.units; omega) I.kIn J (Z.ty _ _ I.kIn p) nf slot hm own isF ?_
  refine wpAny_call (codeAny_mono (F.run X.A.in1 X.stack s H ⟨[.ref a, u], []⟩ ([.ref a, u] ++ []) [.ref a, y] _ E0 room.in1 I.env0.in1 (binds s [.ref a, u] I.kIn many) r2 q) fun res s' got => ?_)
  match res, got with
  | .error e, got => exact got.elim
  | .ok (.ret z), got =>
    obtain ⟨z', H', I', rz, c, rfl, qz⟩ := I.after got
    cases (show z = Value.bool c from rz)
    exact ⟨c, rfl, .bl (!c), H', I', rfl, qz⟩
  | .ok .next, got => exact got.elim
  | .ok .brk, got => exact got.elim
  | .ok .cont, got => exact got.elim
end
end Fz

set_option Elab.async false
set_option linter.all false
set_option maxRecDepth 100000
set_option maxHeartbeats 2000000
/-! Own layer, tenth part: rules as data. -/
namespace Fz
open PySem PySem.Spec PyProof.Rows L2
/-- a rule's numbers: size, rest, modulus, leave; or to, rest, modulus -/
inductive RD where
  | fixed (s r m l : Int)
  | down (t r m : Int)
deriving DecidableEq
def RD.isF : RD → Bool
  | .fixed _ _ _ _ => true
  | .down _ _ _ => false
def RD.num : RD → Int
  | .fixed s _ _ _ => s
  | .down t _ _ => t
def RD.rest : RD → Int
  | .fixed _ r _ _ => r
  | .down _ r _ => r
def RD.mod : RD → Int
  | .fixed _ _ m _ => m
  | .down _ _ m => m
def RD.leave : RD → Int
  | .fixed _ _ _ l => l
  | .down _ _ _ => 0
def RD.start : RD → Int
  | .fixed s _ _ l => s + l
  | .down t _ _ => t + 1
def RD.kind (d : RD) : Str := if d.isF = true then "fixed" else "down"
/-- its numbers are those of a rule -/
structure RD.Wf (d : RD) : Prop where
  n0 : (if d.isF = true then 1 else 0) ≤ d.num
  n1 : d.num ≤ 400
  r0 : 0 ≤ d.rest
  r1 : d.rest ≤ d.mod - 1
  m0 : 1 ≤ d.mod
  m1 : d.mod ≤ 6
  l0 : 0 ≤ d.leave
  l1 : d.leave ≤ 400
def RD.rank : RD → Int
  | .fixed s r m l => rankI 0 s m r l
  | .down t r m => rankI 1 t m r 0
def RD.fs : RD → List (Str × V)
  | .fixed s r m l => ffs s r m l (rankI 0 s m r l)
  | .down t r m => dfs t r m (rankI 1 t m r 0)
/-- a law's tuple of it -/
def RD.tup (d : RD) : List V := [.str d.kind, .int d.num, .int d.rest, .int d.mod, .int d.leave]
def RD.cls (CF CD : Addr) (d : RD) : Addr := if d.isF = true then CF else CD
/-- the rule stands at x -/
def RuleAt (CF CD : Addr) (H : Hp) (x : Addr) (d : RD) : Prop := ∃ dx, H x = some (.ins (d.cls CF CD) dx d.fs)
theorem RuleAt.same {CF CD : Addr} {H H' : Hp} {x : Addr} {d : RD} (h : RuleAt CF CD H x d) (s : Same H H') : RuleAt CF CD H' x d := h.imp fun _ z => s _ _ z
theorem RuleAt.mv {CF CD : Addr} {H H' : Hp} {p x : Addr} {d : RD} {n : Nat} {q : Addr} (h : RuleAt CF CD H x d) (pen : PenAt n H p q) (s : Mv p H H') : RuleAt CF CD H' x d := by
  obtain ⟨dx, z⟩ := h
  obtain ⟨xs, hp⟩ := pen.lst
  exact ⟨dx, s _ _ (fun e => by rw [e, hp] at z; cases z) z⟩
theorem fs_rank (d : RD) : d.fs.lookup ("rank" : Str) = some (V.int d.rank) := by cases d <;> rfl
theorem fs_start (d : RD) : d.fs.lookup ("start" : Str) = some (V.int d.start) := by cases d <;> rfl
theorem fs_rest (d : RD) : d.fs.lookup ("rest" : Str) = some (V.int d.rest) := by cases d <;> rfl
theorem fs_modulus (d : RD) : d.fs.lookup ("modulus" : Str) = some (V.int d.mod) := by cases d <;> rfl
section
variable {CF CD CB : Addr} {H : Hp} {Q : VK} {x dx : Addr} {E : XK}
end
theorem isDown_down : decide ((V.str "down") = V.str "down") = true := by decide +kernel
theorem isDown_fixed : decide ((V.str "fixed") = V.str "down") = false := by decide +kernel
/-- == of rules of the class at C -/
def spEqR (K : PySem.W.Frag) (C : Addr) : Sp := fun vs H Q _ => ∃ (a dx : Addr) (fs : List (Str × V)) (k : Int) (y : V), vs = [.ref a, y] ∧ H a = some (.ins C dx fs) ∧ fs.lookup ("rank" : Str) = some (V.int k) ∧
  ((∃ (b dy : Addr) (gs : List (Str × V)) (j : Int), y = .ref b ∧ H b = some (.ins C dy gs) ∧ gs.lookup ("rank" : Str) = some (V.int j) ∧ Q (.bl (decide (k = j))) H) ∨ (∃ t, TyX K H y t ∧ PySem.W.kitOne K t (.ref C) = some false ∧ Q (.bl false) H))
def spParts : Sp := fun vs H Q _ => ∃ (n : Nat) (p q : Addr) (most : Int), vs = [.ref p, .int most] ∧ PenAt n H p q ∧ n < 99000 ∧ 1 ≤ most ∧ most ≤ 400 ∧
  ∀ H' tp d, PenAt (n + 6) H' p q → Mv p H H' → H tp = none → H' tp = some (.tup (RD.tup d)) → d.Wf → (d.isF = true → d.num ≤ most ∧ d.leave ≤ (if most ≤ 2 then 2 else most - 1)) → (d.isF = false → d.num < most) → Q (.ref tp) H'
def spRule (CF CD : Addr) : Sp := fun vs H Q _ => ∃ (tp : Addr) (d : RD), vs = [.ref tp] ∧ H tp = some (.tup d.tup) ∧ d.Wf ∧ ∀ H' x, Same H H' → H x = none → RuleAt CF CD H' x d → Q (.ref x) H'
end Fz

set_option Elab.async false
set_option linter.all false
set_option maxRecDepth 100000
set_option maxHeartbeats 2000000
/-! Own layer, eleventh part: rules compared; methods called by keywords; two rules for one expression. -/
namespace Fz
open PySem PySem.Spec PyProof.Rows L2
section
variable {X : Cx} {e : Expr} {t t' : TE}
def tEither (t t' : TE) : TE := fun σ H Q => t σ H Q ∨ t' σ H Q
theorem pe_or (h : PE X e t) (h' : PE X e t') : PE X e (tEither t t') := ⟨fun pins s σ H Q I z => z.elim (h.run pins s σ H Q I) (h'.run pins s σ H Q I)⟩
def rEither (r r' : R2) : R2 := fun x y H Q => r x y H Q ∨ r' x y H Q
end
section
variable {X : Cx} {CX : CXT} {k : Nat} {C f : Addr} {fd : FuncData} {ps ks : List Str} {sp : Sp} {E : XK} {m : Str} {pos apos : Pos} {o : Expr} {kws : List Keyword} {ta : TE} {tk : TA} {g : List Value → List Value → List Value} {gV : List V → List V → List V}
end
/-- what the comparing of rules asks -/
structure PrgQ (K : PySem.W.Frag) (CF CD : Addr) : Prop where
  icF : InsC K CF
  icD : InsC K CD
  tyF : TyC K CF
  tyD : TyC K CD
  nFD : PySem.W.notFirst K CF (.ref CD) = true
  nDF : PySem.W.notFirst K CD (.ref CF) = true
  kFF : PySem.W.kitOne K (.ref CF) (.ref CF) = some true
  kFD : PySem.W.kitOne K (.ref CF) (.ref CD) = some false
  kDF : PySem.W.kitOne K (.ref CD) (.ref CF) = some false
  kDD : PySem.W.kitOne K (.ref CD) (.ref CD) = some true
  tF : PySem.W.typeIn K (.ref CF) = some (.type "type")
  tD : PySem.W.typeIn K (.ref CD) = some (.type "type")
theorem nf_self {K : PySem.W.Frag} {C : Addr} : PySem.W.notFirst K C (.ref C) = true := by
  unfold PySem.W.notFirst
  simp
section
variable {K : PySem.W.Frag} {CF CD x y : Addr} {H : Hp} {Q : VK} {d e : RD}
theorem PrgQ.sp_rules (P : PrgQ K CF CD) {C : Addr} {dx dy : Addr} {fs gs : List (Str × V)} {k j : Int} (hx : H x = some (.ins C dx fs)) (rk : fs.lookup ("rank" : Str) = some (V.int k)) (hy : H y = some (.ins C dy gs)) (rj : gs.lookup ("rank" : Str) = some (V.int j)) (fin : Q (.bl (decide (k = j))) H) :
    spEqR K C [.ref x, .ref y] H Q E0 := ⟨x, dx, fs, k, _, rfl, hx, rk, .inl ⟨y, dy, gs, j, rfl, hy, rj, fin⟩⟩
end
section
variable {X : Cx} {CF CD fF fD : Addr} {fdF fdD : FuncData} {ps : List Str}
theorem op_neR (oF : PySem.W.findIn X.K (.ref CF) "__eq__" = some (some (.ref fF))) (iF : PySem.W.isFn X.K (.ref fF) = true) (sF : PySem.W.findIn X.K (.ref CF) "__ne__" = some (some (.builtin "object.__ne__"))) (mF : PySem.W.mroIn X.K CF (.type "object") = some true)
    (F : FnOk X.prog X.w X.K X.mg X.base CX0 1 fF fdF ps (spEqR X.K CF)) (bF : L2.Binds X.K fdF ps [])
    (oD : PySem.W.findIn X.K (.ref CD) "__eq__" = some (some (.ref fD))) (iD : PySem.W.isFn X.K (.ref fD) = true) (sD : PySem.W.findIn X.K (.ref CD) "__ne__" = some (some (.builtin "object.__ne__"))) (mD : PySem.W.mroIn X.K CD (.type "object") = some true)
    (D : FnOk X.prog X.w X.K X.mg X.base CX0 1 fD fdD ps (spEqR X.K CD)) (bD : L2.Binds X.K fdD ps []) (room : Room 2 X.A) :
    OpR X (compareOp .NotEq) (rEither (rNeO X.K CF (spEqR X.K CF)) (rNeO X.K CD (spEqR X.K CD))) := (op_neO oF iF sF mF F bF room).or (op_neO oD iD sD mD D bD room)
end
/-! ### the texts of rules -/
end Fz

set_option Elab.async false
set_option linter.all false
set_option maxRecDepth 100000
set_option maxHeartbeats 2000000
/-! Own layer, twelfth part: what stays but for the pen and the tables; texts of truths; tuples of rules compared. -/
namespace Fz
open PySem PySem.Spec PyProof.Rows L2
/-- all but the pen at p and the tables of code objects is as it was -/
def MvN (p : Addr) (H H' : Hp) : Prop := ∀ b o, b ≠ p → H b = some o → (∀ ps, o ≠ .tbl ps) → H' b = some o
theorem Mv.toN {p : Addr} {H H' : Hp} (m : Mv p H H') : MvN p H H' := fun b o n z _ => m b o n z
theorem tup_mvN {H H' : Hp} {p t : Addr} {xs : List V} {n : Nat} {q : Addr} (h : H t = some (.tup xs)) (pen : PenAt n H p q) (s : MvN p H H') : H' t = some (.tup xs) := by
  obtain ⟨ys, hp⟩ := pen.lst
  exact s _ _ (fun e => by rw [e, hp] at h; cases h) h (fun _ z => nomatch z)
/-! ### truths -/
theorem dp_bools {K : PySem.W.Frag} {H : Hp} : ∀ bs : List Bool, DpAll K H (bs.map V.bl) (bs.map PyData.bool)
  | [] => .nil
  | b :: bs => .cons (.bl b) (dp_bools bs)
theorem depth_bools : ∀ bs : List Bool, PyData.depthAll (bs.map PyData.bool) ≤ 1
  | [] => by simp only [List.map_nil, PyData.depthAll]; omega
  | b :: bs => by
    have ih := depth_bools bs
    simp only [List.map_cons, PyData.depthAll, PyData.depth]
    omega
theorem lay_bools : ∀ bs : List Bool, PyData.canLayAll0 (bs.map PyData.bool) = true
  | [] => by simp only [List.map_nil, PyData.canLayAll0]
  | b :: bs => by
    have ih := lay_bools bs
    simp only [List.map_cons, PyData.canLayAll0, PyData.canLay0, ih, Bool.and_self]
theorem shaped_bools (bs : List Bool) : SeqAt.shaped (.list (bs.map PyData.bool)) = true := by
  have h1 := depth_bools bs
  have h2 : PyData.depth (.list (bs.map PyData.bool)) ≤ 64 := by
    simp only [PyData.depth]
    omega
  show (PyData.canLay0 (.list (bs.map PyData.bool)) && decide (PyData.depth (.list (bs.map PyData.bool)) ≤ 64)) = true
  rw [Bool.and_eq_true]
  exact ⟨by simp only [PyData.canLay0]; exact lay_bools bs, decide_eq_true h2⟩
/-! ### a law's tuples of rules -/
end Fz

set_option Elab.async false
set_option linter.all false
set_option maxRecDepth 100000
set_option maxHeartbeats 2000000
/-! Own layer: numbers as words, the words of rules, the first wrong word (pure). -/
namespace Fz
open PySem PySem.Spec PyProof.Rows L2 TL
/-! ### numbers as words -/
/-! ### words -/
/-! ### the words of a rule -/
/-! ### texts and their words -/
end Fz

set_option Elab.async false
set_option linter.all false
set_option maxRecDepth 100000
set_option maxHeartbeats 2000000
/-! Own layer, thirteenth part: a value of a built-in type == an instance: its own __eq__ answers. -/
namespace Fz
open PySem PySem.Spec PyProof.Rows L2
open PySem.AutoSeq1 (wpAny_loadPart')
open PySem.MeetsSeq PySem.SeqAt
section
variable {c : Value} {dd : Option Addr} {sl : Array (Option Value)}
end
section
variable {prog : Program} {w : World} {A : Around} {s : Shared} {K : PySem.W.Frag} {x C l : Addr} {ox : Obj} {od : Option Obj} {R : Result → Shared → Prop}
end
/-! ### the reflected == -/
section
variable {prog : Program} {w : World} {A : Around} {E : Value → Shared → Prop} {s : Shared} {K : PySem.W.Frag} {x C f : Addr} {ox : Obj} {od : Option Obj} {u : Value} {T id : String}
end
section
variable {X : Cx} {C f : Addr} {fd : FuncData} {ps : List Str} {sp : Sp} {k : Nat}
end
/-! ### repr of any value of a built-in kind -/
end Fz

set_option Elab.async false
set_option linter.all false
set_option maxRecDepth 100000
set_option maxHeartbeats 2000000
/-! Own layer, fourteenth part: where rules stand; errors of one field; what is heard of a rule asked at a heap. -/
namespace Fz
open PySem PySem.Spec PyProof.Rows L2
/-! ### errors of one field -/
/-! ### values and heaps -/
def great : Int := 1000000000000000000000000000000
/-- a value of a built-in kind, or a rule -/
def AnyV (CF CD : Addr) (H : Hp) (v : V) : Prop := Kd H v ∨ ∃ x d, v = .ref x ∧ RuleAt CF CD H x d
/-- neither class of rules is below int or bool -/
structure NoInt (K : PySem.W.Frag) (CF CD : Addr) : Prop where
  fi : PySem.W.kitOne K (.ref CF) (.type "int") = some false
  fb : PySem.W.kitOne K (.ref CF) (.type "bool") = some false
  di : PySem.W.kitOne K (.ref CD) (.type "int") = some false
  db : PySem.W.kitOne K (.ref CD) (.type "bool") = some false
def IntTy (K : PySem.W.Frag) (H : Hp) (x : V) : Prop := ∃ t, TyX K H x t ∧ PySem.W.kitOne K t (.type "int") = some (isIntV x) ∧ PySem.W.kitOne K t (.type "bool") = some (isBlV x)
theorem AnyV.int {K : PySem.W.Frag} {CF CD : Addr} {H : Hp} {v : V} (P : PrgQ K CF CD) (N : NoInt K CF CD) (h : AnyV CF CD H v) : IntTy K H v := by
  rcases h with k | ⟨x, d, rfl, dx, r⟩
  · exact k.isInt
  · cases d with
    | fixed _ _ _ _ => exact ⟨_, P.tyF.ty P.icF.cl r, N.fi, N.fb⟩
    | down _ _ _ => exact ⟨_, P.tyD.ty P.icD.cl r, N.di, N.db⟩
def spNumX (K : PySem.W.Frag) : Sp := fun vs H Q _ => ∃ (x : V) (lo hi : Int), vs = [x, .int lo, .int hi] ∧ IntTy K H x ∧ Q (.bl (numV lo hi x)) H
def standsB (d : RD) (n : Int) : Bool := decide (d.start ≤ n) && decide (n % d.mod = d.rest)
def leftI : RD → Int → Int
  | .fixed s _ _ _, n => n - s
  | .down t _ _, _ => t
def spStands (CF CD : Addr) : Sp := fun vs H Q _ => ∃ (x : Addr) (d : RD) (n : Int), vs = [.ref x, .int n] ∧ RuleAt CF CD H x d ∧ d.Wf ∧ Q (.bl (standsB d n)) H
def spLeftFrom (CF CD : Addr) : Sp := fun vs H Q _ => ∃ (x : Addr) (s r m l n : Int), vs = [.ref x, .int n] ∧ RuleAt CF CD H x (.fixed s r m l) ∧ Q (.int (n - s)) H
/-! ### what is heard -/
end Fz

set_option Elab.async false
set_option linter.all false
set_option maxRecDepth 100000
set_option maxHeartbeats 2000000
/-! Own layer, fifteenth part: short data and its text; a rule's methods of one heap, of either class. -/
namespace Fz
open PySem PySem.Spec PyProof.Rows L2
/-! ### short data -/
/-! ### a method of one heap -/
section
variable {P : Program} {w : World} {K : PySem.W.Frag} {mg : Str → Option Value} {base : Heap}
end
section
variable {CZ CN CF CD x : Addr} {m : Str} {g : RD → V → Out} {i j : Nat} {E : XK} {σ : L2.St} {H : Hp} {Q : VK} {d : RD} {v : V} {TL : List (Addr × Str)}
end
/-! ### answers gathered in a list -/
/-! ### values that are no heaps -/
section
variable {K : PySem.W.Frag} {CF CD x : Addr} {H H' : Hp} {v : V} {d : RD}
end
/-! ### a test that is a conditional expression -/
section
variable {X : Cx} {a b c : Expr} {tA tB tC : L2.TT} {pos : Pos}
end
end Fz

set_option Elab.async false
set_option linter.all false
set_option maxRecDepth 100000
set_option maxHeartbeats 2000000
/-! Own layer: a classmethod called by keywords; texts and their parts; an error of two fields; what reading promises. -/
namespace Fz
open PySem PySem.Spec PyProof.Rows L2 TL
section
variable {X : Cx} {CX : CXT} {k : Nat} {C p g : Addr} {mc : Value} {fd : FuncData} {ps ks : List Str} {sp : Sp} {E : XK} {o : Expr} {kws : List Keyword} {m : Str} {pos apos : Pos} {ta : TE} {tk : TA} {gg : List Value → List Value → List Value} {gV : List V → List V → List V}
end
/-! ### texts and their parts -/
/-! ### words in a heap -/
/-! ### slots in a heap -/
/-! ### an error of two fields -/
/-! ### what reading promises -/
end Fz

set_option Elab.async false
set_option linter.all false
set_option maxRecDepth 100000
set_option maxHeartbeats 2000000
/-! Own layer: rows of worths that come again, their least form (pure). -/
namespace Fz
open PySem PySem.Spec PyProof.Rows L2
/-- the worth of the heap h: a ahead, n that come again -/
def atW (row : List Int) (a n h : Nat) : Int := row.getD (if h < a then h else a + (h - a) % n) 0
structure Told (row : List Int) (a n : Nat) : Prop where
  len : row.length = a + n
  n1 : 1 ≤ n
  fit : ∀ x ∈ row, 0 ≤ x ∧ x ≤ 400
theorem atW_low {row : List Int} {a n h : Nat} (l : h < a + n) : atW row a n h = row.getD h 0 := by
  unfold atW
  by_cases c : h < a
  · rw [if_pos c]
  · rw [if_neg c, Nat.mod_eq_of_lt (by omega)]
    congr 1
    omega
theorem atW_high {row : List Int} {a n h : Nat} (l : a ≤ h) : atW row a n h = row.getD (a + (h - a) % n) 0 := by
  unfold atW
  rw [if_neg (by omega)]
theorem atW_per {row : List Int} {a n i : Nat} (l : a ≤ i) (k : Nat) : atW row a n (i + n * k) = atW row a n i := by
  rw [atW_high l, atW_high (by omega), show i + n * k - a = (i - a) + n * k by omega, Nat.add_mul_mod_self_left]
theorem atW_per1 {row : List Int} {a n i : Nat} (l : a ≤ i) : atW row a n (i + n) = atW row a n i := by
  have q := atW_per (row := row) (n := n) l 1
  rw [Nat.mul_one] at q
  exact q
/-- the least form of a row that goes on without end -/
structure Form (W : Nat → Int) (b p : Nat) : Prop where
  p1 : 1 ≤ p
  per : ∀ i, b ≤ i → W (i + p) = W i
  min : ∀ s c, 1 ≤ s → (∀ i, c ≤ i → W (i + s) = W i) → p ≤ s
  low : b = 0 ∨ W (b - 1 + p) ≠ W (b - 1)
theorem Form.uniq {W : Nat → Int} {b p b' p' : Nat} (f : Form W b p) (g : Form W b' p') : b = b' ∧ p = p' := by
  have e : p = p' := Nat.le_antisymm (f.min p' b' g.p1 g.per) (g.min p b f.p1 f.per)
  subst e
  refine ⟨?_, rfl⟩
  rcases Nat.lt_trichotomy b b' with h | h | h
  · rcases g.low with z | z
    · omega
    · exact absurd (f.per (b' - 1) (by omega)) z
  · exact h
  · rcases f.low with z | z
    · omega
    · exact absurd (g.per (b - 1) (by omega)) z
/-- of what comes again from some heap on, all from a on comes again so -/
theorem good_of {row : List Int} {a n s c : Nat} (n1 : 1 ≤ n) (h : ∀ i, c ≤ i → atW row a n (i + s) = atW row a n i) : ∀ i, a ≤ i → atW row a n (i + s) = atW row a n i := fun i hi => by
  have e1 := atW_per (row := row) (n := n) hi c
  have e2 := atW_per (row := row) (n := n) (show a ≤ i + s by omega) c
  have m : c ≤ n * c := Nat.le_mul_of_pos_left c n1
  have e3 := h (i + n * c) (by omega)
  rw [show i + n * c + s = i + s + n * c by omega, e2, e1] at e3
  exact e3
/-! ### the period that is found by repeating -/
def Rep (r : List Int) (p : Nat) : Prop := (List.replicate (r.length / p) (r.take p)).flatten = r
theorem rep_get (l : List Int) : ∀ (k i : Nat), i < k * l.length → (List.replicate k l).flatten.getD i 0 = l.getD (i % l.length) 0
  | 0, i, h => by simp at h
  | k + 1, i, h => by
    rw [List.replicate_succ, List.flatten_cons]
    by_cases c : i < l.length
    · rw [Nat.mod_eq_of_lt c, List.getD_eq_getElem?_getD, List.getElem?_append_left c, ← List.getD_eq_getElem?_getD]
    · have c2 : l.length ≤ i := by omega
      rw [List.getD_eq_getElem?_getD, List.getElem?_append_right c2, ← List.getD_eq_getElem?_getD, rep_get l k (i - l.length) (by rw [Nat.add_mul] at h; omega)]
      congr 1
      exact (Nat.mod_eq_sub_mod c2).symm
theorem flat_len (l : List Int) : ∀ k : Nat, (List.replicate k l).flatten.length = k * l.length
  | 0 => by simp
  | k + 1 => by
    rw [List.replicate_succ, List.flatten_cons, List.length_append, flat_len l k, Nat.add_mul]
    omega
theorem ext_getD {xs ys : List Int} (l : xs.length = ys.length) (h : ∀ i, i < xs.length → xs.getD i 0 = ys.getD i 0) : xs = ys := by
  refine List.ext_getElem l fun i h1 h2 => ?_
  have q := h i h1
  rw [List.getD_eq_getElem?_getD, List.getD_eq_getElem?_getD, List.getElem?_eq_getElem h1, List.getElem?_eq_getElem h2] at q
  exact q
theorem rep_iff {r : List Int} {p : Nat} (p1 : 1 ≤ p) (p2 : p ≤ r.length) : Rep r p ↔ p ∣ r.length ∧ ∀ i, i < r.length → r.getD i 0 = r.getD (i % p) 0 := by
  have tl : (r.take p).length = p := by rw [List.length_take]; omega
  have fl := flat_len (r.take p) (r.length / p)
  rw [tl] at fl
  have get : ∀ i, i < r.length / p * p → (List.replicate (r.length / p) (r.take p)).flatten.getD i 0 = r.getD (i % p) 0 := fun i hi => by
    rw [rep_get _ _ _ (by rw [tl]; exact hi), tl, List.getD_eq_getElem?_getD, List.getElem?_take_of_lt (Nat.mod_lt _ (by omega)), ← List.getD_eq_getElem?_getD]
  constructor
  · intro h
    have e : r.length / p * p = r.length := by rw [← fl, h]
    refine ⟨Nat.dvd_of_mul_dvd_mul_right (k := 1) (by decide) (by rw [Nat.mul_one, Nat.mul_one]; exact ⟨r.length / p, by rw [Nat.mul_comm, e]⟩), fun i hi => ?_⟩
    have q := get i (by omega)
    rw [h] at q
    exact q
  · rintro ⟨d, h⟩
    have e : r.length / p * p = r.length := Nat.div_mul_cancel d
    exact ext_getD (by rw [fl, e]) fun i hi => by
      rw [fl] at hi
      rw [get i hi, ← h i (by omega)]
theorem rep_self {r : List Int} (h : 1 ≤ r.length) : Rep r r.length := (rep_iff h (Nat.le_refl _)).mpr ⟨Nat.dvd_refl _, fun i hi => by rw [Nat.mod_eq_of_lt hi]⟩
/-- what the program finds -/
structure LeastRep (r : List Int) (p : Nat) : Prop where
  p1 : 1 ≤ p
  p2 : p ≤ r.length
  rep : Rep r p
  min : ∀ q, 1 ≤ q → q < p → ¬ Rep r q
structure Back (row : List Int) (a p b : Nat) : Prop where
  le : b ≤ a
  same : ∀ i, b ≤ i → i < a → row.getD i 0 = row.getD (i + p) 0
  low : b = 0 ∨ row.getD (b - 1) 0 ≠ row.getD (b - 1 + p) 0
section
variable {row : List Int} {a n p b : Nat}
theorem drop_get (row : List Int) (a i : Nat) : (row.drop a).getD i 0 = row.getD (a + i) 0 := by
  rw [List.getD_eq_getElem?_getD, List.getElem?_drop, ← List.getD_eq_getElem?_getD]
theorem prog_form (t : Told row a n) (l : LeastRep (row.drop a) p) (k : Back row a p b) : Form (atW row a n) b p := by
  have ln : (row.drop a).length = n := by rw [List.length_drop, t.len]; omega
  have n1 := t.n1
  have p2 := l.p2
  rw [ln] at p2
  have p1 := l.p1
  obtain ⟨d, per⟩ := (rep_iff l.p1 l.p2).mp l.rep
  rw [ln] at d per
  have high : ∀ i, a ≤ i → atW row a n (i + p) = atW row a n i := fun i hi => by
    have e : ∀ j, a ≤ j → atW row a n j = row.getD (a + (j - a) % p) 0 := fun j hj => by
      have m := Nat.mod_lt (j - a) (show n > 0 by omega)
      have q := per ((j - a) % n) m
      rw [drop_get, drop_get, Nat.mod_mod_of_dvd _ d] at q
      rw [atW_high hj, q]
    rw [e i hi, e (i + p) (by omega), show i + p - a = (i - a) + p by omega, Nat.add_mod_right]
  refine ⟨p1, fun i hi => ?_, fun s c s1 h => ?_, ?_⟩
  · by_cases c : a ≤ i
    · exact high i c
    · have q := k.same i hi (by omega)
      rw [atW_low (by omega), atW_low (by omega), q]
  · have good := good_of n1 h
    clear h
    induction s using Nat.strongRecOn with
    | _ s ih =>
      by_cases big : n < s
      · omega
      · have many : ∀ (q i : Nat), a ≤ i → atW row a n (i + s * q) = atW row a n i := fun q => by
          induction q with
          | zero => intro i _; rw [Nat.mul_zero, Nat.add_zero]
          | succ q ih2 =>
            intro i hi
            rw [Nat.mul_succ, ← Nat.add_assoc, good (i + s * q) (by omega), ih2 i hi]
        by_cases z : n % s = 0
        · refine Nat.le_of_not_lt fun lt => l.min s s1 lt ((rep_iff s1 (by rw [ln]; omega)).mpr ⟨by rw [ln]; exact Nat.dvd_of_mod_eq_zero z, fun i hi => ?_⟩)
          rw [ln] at hi
          rw [drop_get, drop_get]
          have e := Nat.div_add_mod i s
          have q := many (i / s) (a + i % s) (by omega)
          have le := Nat.mod_le i s
          rw [show a + i % s + s * (i / s) = a + i by omega, atW_low (by omega), atW_low (by omega)] at q
          exact q
        · have r := Nat.mod_lt n (show s > 0 by omega)
          have w := ih (n % s) r (by omega) fun i hi => by
            have e := Nat.div_add_mod n s
            have q := many (n / s) (i + n % s) (by omega)
            rw [show i + n % s + s * (n / s) = i + n by omega, atW_per1 hi] at q
            exact q.symm
          omega
  · rcases k.low with z | z
    · exact .inl z
    · by_cases z0 : b = 0
      · exact .inl z0
      have le := k.le
      refine .inr fun e => z ?_
      rw [atW_low (by omega), atW_low (by omega)] at e
      exact e.symm
def nums (W : Nat → Int) (k : Nat) : List Int := (List.range k).map W
theorem nums_len (W : Nat → Int) (k : Nat) : (nums W k).length = k := by unfold nums; rw [List.length_map, List.length_range]
theorem nums_get {W : Nat → Int} {k i : Nat} (h : i < k) : (nums W k).getD i 0 = W i := by
  unfold nums
  rw [List.getD_eq_getElem?_getD, List.getElem?_map, List.getElem?_range h]
  rfl
theorem take_nums (t : Told row a n) {k : Nat} (h : k ≤ a + n) : row.take k = nums (atW row a n) k := by
  refine ext_getD (by rw [List.length_take, t.len, nums_len]; omega) fun i hi => ?_
  rw [List.length_take, t.len] at hi
  rw [nums_get (by omega), atW_low (by omega), List.getD_eq_getElem?_getD, List.getElem?_take_of_lt (by omega), ← List.getD_eq_getElem?_getD]
end
end Fz

set_option Elab.async false
set_option linter.all false
set_option maxRecDepth 100000
set_option maxHeartbeats 2000000
/-! Own layer: tables of worths as objects; walks over a list or a tuple; tests that may be asked for less. -/
namespace Fz
open PySem PySem.Spec PyProof.Rows L2
section
variable {X : Cx} {tg e : Expr} {te : TE}
/-- a test may be asked for less -/
def tWeakT (t : L2.TT) : L2.TT := fun σ H Q => ∃ Q' : Bool → Hp → Prop, t σ H Q' ∧ ∀ b H', Q' b H' → Q b H'
theorem pt_weak {t : L2.TT} (h : PT X e t) : PT X e (tWeakT t) := ⟨fun pins s σ H Q I ⟨Q', h', w⟩ => thn (h.run pins s σ H Q' I h') fun b s1 ⟨H1, I1, q⟩ => ⟨H1, I1, w _ _ q⟩⟩
theorem weakT_mono {t : L2.TT} : ∀ (σ : L2.St) (H : Hp) (Q Q' : Bool → Hp → Prop), (∀ b H1, Q b H1 → Q' b H1) → tWeakT t σ H Q → tWeakT t σ H Q' := fun σ H Q Q' h ⟨q, a, b⟩ => ⟨q, a, fun c H1 z => h _ _ (b c H1 z)⟩
theorem weakT_of {t : L2.TT} {σ : L2.St} {H : Hp} {Q : Bool → Hp → Prop} (h : t σ H Q) : tWeakT t σ H Q := ⟨Q, h, fun _ _ z => z⟩
theorem at_nat' {xs : List V} {i : Nat} {v : V} (h : xs[i]? = some v) : atI xs (i : Int) = some v := by
  have l : i < xs.length := by
    rcases Nat.lt_or_ge i xs.length with q | q
    · exact q
    · rw [List.getElem?_eq_none q] at h
      cases h
  unfold atI ixN
  rw [if_pos (by omega), if_pos (by omega)]
  show xs[(i : Int).toNat]? = _
  rw [Int.toNat_natCast, h]
theorem cutV_take (xs : List V) (k : Nat) : cutV xs none (some (k : Int)) = xs.take k := by
  unfold cutV
  rw [HT.sIx_nat, HT.sIx_none, List.drop_zero, Nat.sub_zero]
  rcases Nat.le_total k xs.length with h | h
  · rw [Nat.min_eq_left h]
  · rw [Nat.min_eq_right h, List.take_length, List.take_of_length_le h]
theorem cutV_drop (xs : List V) (k : Nat) : cutV xs (some (k : Int)) none = xs.drop k := by
  unfold cutV
  rw [HT.sIx_nat, HT.sIx_none]
  rcases Nat.le_total k xs.length with h | h
  · rw [Nat.min_eq_left h, List.take_of_length_le (by rw [List.length_drop]; omega)]
  · rw [Nat.min_eq_right h, List.drop_length, List.drop_eq_nil_of_le h]
    simp
theorem eqv_ints : ∀ xs ys : List Int, PyData.eqvAll (xs.map PyData.int) (ys.map PyData.int) = decide (xs = ys)
  | [], [] => by simp [PyData.eqvAll]
  | [], y :: ys => by simp [PyData.eqvAll]
  | x :: xs, [] => by simp [PyData.eqvAll]
  | x :: xs, y :: ys => by
    show (PyData.eqv (.int x) (.int y) && PyData.eqvAll (xs.map PyData.int) (ys.map PyData.int)) = _
    rw [eqv_ints xs ys]
    by_cases h : x = y <;> simp [PyData.eqv, h]
theorem eqv_lists (xs ys : List Int) : PyData.eqv (.list (xs.map PyData.int)) (.list (ys.map PyData.int)) = decide (xs = ys) := by
  rw [show PyData.eqv (.list (xs.map PyData.int)) (.list (ys.map PyData.int)) = PyData.eqvAll (xs.map PyData.int) (ys.map PyData.int) from by simp [PyData.eqv], eqv_ints]
theorem eqv_tups (xs ys : List Int) : PyData.eqv (.tuple (xs.map PyData.int)) (.tuple (ys.map PyData.int)) = decide (xs = ys) := by
  rw [show PyData.eqv (.tuple (xs.map PyData.int)) (.tuple (ys.map PyData.int)) = PyData.eqvAll (xs.map PyData.int) (ys.map PyData.int) from by simp [PyData.eqv], eqv_ints]
theorem shaped_tints (ns : List Int) : SeqAt.shaped (.tuple (ns.map PyData.int)) = true := by
  have q := depth_ints ns
  unfold SeqAt.shaped
  rw [show PyData.canLay0 (.tuple (ns.map PyData.int)) = PyData.canLayAll0 (ns.map PyData.int) from by simp [PyData.canLay0], lay_ints, Bool.true_and]
  refine decide_eq_true ?_
  simp only [PyData.depth]
  omega
theorem eq_tups {K : PySem.W.Frag} {H : Hp} {Q : VK} {a b : Addr} {xs ys : List Int} (ha : H a = some (.tup (xs.map V.int))) (hb : H b = some (.tup (ys.map V.int))) (fin : Q (.bl (decide (xs = ys))) H) : rEqD K (.ref a) (.ref b) H Q := by
  refine ⟨.tuple (xs.map PyData.int), .tuple (ys.map PyData.int), Dp.tup (SqT.of ha) (dp_ints xs), Dp.tup (SqT.of hb) (dp_ints ys), shaped_tints xs, shaped_tints ys, ?_⟩
  rw [eqv_tups]
  exact fin
/-- a walk over a list or a tuple -/
def iSeq (K : PySem.W.Frag) (te : TE) : TI := fun σ H R => iList K te σ H R ∨ iTup K te σ H R
theorem pi_seq (h : PE X e te) : PI X tg e (iSeq X.K te) := ⟨fun pins s σ H R I z => z.elim ((pi_list (tg := tg) h).run pins s σ H R I) ((pi_tup (tg := tg) h).run pins s σ H R I)⟩
end
/-- at l: a list or a tuple of these -/
def SeqAt2 (H : Hp) (l : Addr) (xs : List V) : Prop := H l = some (.lst xs) ∨ H l = some (.tup xs)
theorem SeqAt2.len {K : PySem.W.Frag} {H : Hp} {l : Addr} {xs : List V} (h : SeqAt2 H l xs) : LenV K (.ref l) H xs.length := h.imp (fun z => ⟨xs, SqL.of z, rfl⟩) fun z => ⟨xs, SqT.of z, rfl⟩
theorem SeqAt2.ix {K : PySem.W.Frag} {H : Hp} {Q : VK} {l : Addr} {xs : List V} {i : Int} {v : V} (h : SeqAt2 H l xs) (e : atI xs i = some v) (q : Q v H) : rIx K (.ref l) (.int i) H Q := by
  rcases h with z | z
  · exact .inl ⟨l, xs, i, v, rfl, rfl, SqL.of z, e, q⟩
  · exact .inr (.inl ⟨l, xs, i, v, rfl, rfl, SqT.of z, e, q⟩)
/-- the argument is a list or a tuple of these, or no list and no tuple -/
def SeqOf (H : Hp) (v : V) : Option (List V) → Prop
  | some xs => ∃ l, v = .ref l ∧ SeqAt2 H l xs
  | none => Kd H v ∧ ∀ l, v = .ref l → ∃ kvs, H l = some (.dK kvs)
theorem seq_kit {K : PySem.W.Frag} {H : Hp} {v : V} {o : Option (List V)} (h : SeqOf H v o) : ∃ t, TyX K H v t ∧ PySem.W.kitAny K t [.type "list", .type "tuple"] = some o.isSome := by
  have no : ∀ n : String, kitB n "list" = some false → kitB n "tuple" = some false → PySem.W.kitAny K (.type n) [.type "list", .type "tuple"] = some false := fun n a b =>
    kitAny_cons (kit_ty a) (fun _ => kitAny_cons (kit_ty b) (fun _ => kitAny_nil) fun z => nomatch z) fun z => nomatch z
  cases o with
  | some xs =>
    obtain ⟨l, rfl, h⟩ := h
    rcases h with h | h
    · exact ⟨_, .base (.lst h), kitAny_cons (b := true) (kit_ty (show kitB "list" "list" = some true by decide +kernel)) (fun z => nomatch z) fun _ => rfl⟩
    · exact ⟨_, .base (.tup h), kitAny_cons (b := false) (kit_ty (show kitB "tuple" "list" = some false by decide +kernel)) (fun _ => kitAny_cons (b := true) (kit_ty (show kitB "tuple" "tuple" = some true by decide +kernel)) (fun z => nomatch z) fun _ => rfl) fun z => nomatch z⟩
  | none =>
    obtain ⟨kd, h⟩ := h
    cases v with
    | non => exact ⟨_, .base .non, no _ (by decide +kernel) (by decide +kernel)⟩
    | bl b => exact ⟨_, .base (.bl b), no _ (by decide +kernel) (by decide +kernel)⟩
    | int i => exact ⟨_, .base (.int i), no _ (by decide +kernel) (by decide +kernel)⟩
    | str z => exact ⟨_, .base (.str z), no _ (by decide +kernel) (by decide +kernel)⟩
    | ref a =>
      obtain ⟨kvs, e⟩ := h a rfl
      exact ⟨_, .base (.dK e), no _ (by decide +kernel) (by decide +kernel)⟩
    | byt _ => exact kd.elim
    | flt _ => exact kd.elim
    | ty _ => exact kd.elim
/-! ### the parts of a table -/
/-! ### tables -/
structure TabC (K : PySem.W.Frag) (C : Addr) : Prop where
  cl : Cls K C
  nBegin : PySem.W.findIn K (.ref C) "begin" = some none
  nPeriod : PySem.W.findIn K (.ref C) "period" = some none
  nNumbers : PySem.W.findIn K (.ref C) "numbers" = some none
def tfs (b p : Int) (t : Addr) : List (Str × V) := putF "numbers" (.ref t) (putF "period" (.int p) (putF "begin" (.int b) []))
def TabAt (CT : Addr) (H : Hp) (x : Addr) (b p : Nat) (ns : List Int) : Prop := ∃ dx t, H x = some (.ins CT dx (tfs b p t)) ∧ H t = some (.tup (ns.map V.int))
theorem TabAt.same {CT : Addr} {H H' : Hp} {x : Addr} {b p : Nat} {ns : List Int} (h : TabAt CT H x b p ns) (s : Same H H') : TabAt CT H' x b p ns := let ⟨dx, t, a, c⟩ := h; ⟨dx, t, s _ _ a, s _ _ c⟩
theorem TabAt.mv {CT : Addr} {H H' : Hp} {x p q : Addr} {n b pe : Nat} {ns : List Int} (h : TabAt CT H x b pe ns) (pen : PenAt n H p q) (m : Mv p H H') : TabAt CT H' x b pe ns := by
  obtain ⟨dx, t, a, c⟩ := h
  obtain ⟨xs, hp⟩ := pen.lst
  exact ⟨dx, t, m _ _ (fun z => by rw [z, hp] at a; cases a) a, m _ _ (fun z => by rw [z, hp] at c; cases c) c⟩
end Fz

set_option Elab.async false
set_option linter.all false
set_option maxRecDepth 100000
set_option maxHeartbeats 2000000
/-! Own layer: rows that are lists or tuples; the least period by comparing (pure); targets that are fields. -/
namespace Fz
open PySem PySem.Spec PyProof.Rows L2
/-- at l: a tuple (t) or a list of these -/
def SqB (t : Bool) (H : Hp) (l : Addr) (xs : List V) : Prop := H l = some (if t = true then .tup xs else .lst xs)
theorem SqB.same {t : Bool} {H H' : Hp} {l : Addr} {xs : List V} (h : SqB t H l xs) (s : Same H H') : SqB t H' l xs := s _ _ h
theorem SqB.ii {t : Bool} {H : Hp} {l : Addr} {xs : List V} (h : SqB t H l xs) : SeqAt2 H l xs := by
  cases t with
  | false => exact .inl h
  | true => exact .inr h
theorem cutV_all {xs : List V} {lo hi : Option Int} (h : HT.sIx xs.length 0 lo = 0 ∧ HT.sIx xs.length xs.length hi = xs.length) : cutV xs lo hi = xs := by
  unfold cutV
  rw [h.1, h.2, List.drop_zero, Nat.sub_zero, List.take_length]
def rSlS (K : PySem.W.Frag) : V → Option Int → Option Int → Hp → VK → Prop := fun x lo hi H Q => rSlL K x lo hi H Q ∨ rSlA K x lo hi H Q
theorem sl_seq {X : Cx} : SlR X (rSlS X.K) := sl_list.or sl_tupA
theorem SqB.cut {K : PySem.W.Frag} {t : Bool} {H : Hp} {l : Addr} {xs : List V} {lo hi : Option Int} {Q : VK} (h : SqB t H l xs) (q : ∀ p H', Same H H' → SqB t H' p (cutV xs lo hi) → Q (.ref p) H') : rSlS K (.ref l) lo hi H Q := by
  cases t with
  | false => exact .inl ⟨l, xs, rfl, SqL.of h, fun p hp => q p _ (Same.new hp) upd_same⟩
  | true => exact .inr ⟨l, xs, rfl, SqT.of h, fun w => q l H (fun _ _ z => z) (by rw [cutV_all w]; exact h), fun _ p hp => q p _ (Same.new hp) upd_same⟩
theorem SqB.eq {K : PySem.W.Frag} {t : Bool} {H : Hp} {a b : Addr} {xs ys : List Int} {Q : VK} (ha : SqB t H a (xs.map V.int)) (hb : SqB t H b (ys.map V.int)) (fin : Q (.bl (decide (xs = ys))) H) : rEqD K (.ref a) (.ref b) H Q := by
  cases t with
  | false =>
    refine ⟨.list (xs.map PyData.int), .list (ys.map PyData.int), Dp.lst (SqL.of ha) (dp_ints xs), Dp.lst (SqL.of hb) (dp_ints ys), shaped_ints xs, shaped_ints ys, ?_⟩
    rw [eqv_lists]
    exact fin
  | true => exact eq_tups ha hb fin
/-- the period p repeats exactly if p divides the length and the row without its last p items is the row without its first p -/
theorem near_iff {r : List Int} {p : Nat} (p1 : 1 ≤ p) (p2 : p ≤ r.length) : Rep r p ↔ (r.length % p = 0 ∧ r.take (r.length - p) = r.drop p) := by
  rw [rep_iff p1 p2]
  have gt : ∀ i, i < r.length - p → (r.take (r.length - p)).getD i 0 = r.getD i 0 := fun i hi => by
    rw [List.getD_eq_getElem?_getD, List.getElem?_take_of_lt hi, ← List.getD_eq_getElem?_getD]
  have gd : ∀ i, (r.drop p).getD i 0 = r.getD (p + i) 0 := fun i => drop_get r p i
  constructor
  · rintro ⟨d, h⟩
    refine ⟨Nat.mod_eq_zero_of_dvd d, ext_getD (by rw [List.length_take, List.length_drop]; omega) fun i hi => ?_⟩
    rw [List.length_take] at hi
    have hi2 : i < r.length - p := by omega
    rw [gt i hi2, gd, h i (by omega), h (p + i) (by omega), Nat.add_mod_left]
  · rintro ⟨d, h⟩
    refine ⟨Nat.dvd_of_mod_eq_zero d, fun i => ?_⟩
    induction i using Nat.strongRecOn with
    | ind i ih =>
      intro hi
      rcases Nat.lt_or_ge i p with l | l
      · rw [Nat.mod_eq_of_lt l]
      · have q := ih (i - p) (by omega) (by omega)
        have e : (r.take (r.length - p)).getD (i - p) 0 = (r.drop p).getD (i - p) 0 := by rw [h]
        rw [gt (i - p) (by omega), gd, show p + (i - p) = i by omega] at e
        rw [← e, q]
        have m : (i - p) % p = i % p := by
          conv => rhs; rw [show i = i - p + p by omega, Nat.add_mod_right]
        rw [m]
section
variable {X : Cx} {o : Expr} {f : Str} {pos : Pos} {ta : TE}
/-- e.f = the value, as a target -/
def gFld (K : PySem.W.Frag) (ta : TE) (f : Str) : TG := fun y σ H Q => ta σ H fun x H2 => ∃ a C dx fs, x = .ref a ∧ H2 a = some (.ins C dx fs) ∧ Cls K C ∧ NoAttr K C f ∧ fs.length < 1000 ∧ Q σ (upd H2 a (.ins C dx (putF f y fs)))
theorem pg_fld (ha : PE X o ta) : PG X (.Attribute o f pos) (gFld X.K ta f) := by
  refine ⟨fun pins s σ H v u Q I r h => ?_⟩
  refine PySem.W.kas_attr (thn (ha.run pins s σ H _ I h) fun ov s1 ⟨x, H1, I1, rx, a, C, dx, fs, ex, ea, c, n, l, q⟩ => ?_)
  subst ex
  obtain rfl : ov = Value.ref a := rx
  exact setattr_ok I1 ea c n l r fun s2 I2 => ⟨σ, _, I2, q⟩
end
/-- least_period -/
def spLeastR : Sp := fun vs H Q _ => ∃ (l : Addr) (t : Bool) (ns : List Int), vs = [.ref l] ∧ SqB t H l (ns.map V.int) ∧ 1 ≤ ns.length ∧ ns.length ≤ 3000 ∧ ∀ H' p, Same H H' → LeastRep ns p → Q (.int (p : Nat)) H'
/-- least_form -/
def spLeastF : Sp := fun vs H Q _ => ∃ (l : Addr) (t : Bool) (ns : List Int) (bn pn : Nat), vs = [.ref l, .int bn] ∧ SqB t H l (ns.map V.int) ∧ Told ns bn pn ∧ bn + pn ≤ 3000 ∧ ∀ H' u b p, Same H H' → H' u = some (.tup [.int (b : Nat), .int (p : Nat)]) → Form (atW ns bn pn) b p → b + p ≤ bn + pn → Q (.ref u) H'
end Fz

set_option Elab.async false
set_option linter.all false
set_option maxRecDepth 100000
set_option maxHeartbeats 2000000
/-! Own layer: rows of truths; their least form; last tables as objects. -/
namespace Fz
open PySem PySem.Spec PyProof.Rows L2
theorem eqv_bools' : ∀ xs ys : List Bool, PyData.eqvAll (xs.map PyData.bool) (ys.map PyData.bool) = decide (xs = ys)
  | [], [] => by simp [PyData.eqvAll]
  | [], y :: ys => by simp [PyData.eqvAll]
  | x :: xs, [] => by simp [PyData.eqvAll]
  | x :: xs, y :: ys => by
    show (PyData.eqv (.bool x) (.bool y) && PyData.eqvAll (xs.map PyData.bool) (ys.map PyData.bool)) = _
    rw [eqv_bools' xs ys]
    by_cases h : x = y <;> simp [PyData.eqv, h]
/-! ### the parts of a last table -/
/-! ### last tables -/
end Fz

set_option Elab.async false
set_option linter.all false
set_option maxRecDepth 100000
set_option maxHeartbeats 2000000
/-! Own layer: x[i] by the class's own __getitem__; truths by `is`; places in last tables (pure); the words of last tables. -/
namespace Fz
open PySem PySem.Spec PyProof.Rows L2
section
variable {X : Cx} {C f : Addr} {fd : FuncData} {ps : List Str} {sp : Sp} {k : Nat} {a b : Expr} {ta tb : TE} {E : XK} {CX : CXT} {pos : Pos}
/-- x[i], x an instance of C whose own def keeps sp -/
def tIxO (C : Addr) (sp : Sp) (E : XK) (ta tb : TE) : TE := fun σ H Q => ta σ H fun x H1 => tb σ H1 fun y H2 => ∃ (o dx : Addr) (fs : List (Str × V)), x = .ref o ∧ H2 o = some (.ins C dx fs) ∧ sp [x, y] H2 Q E
theorem fn_in {K : PySem.W.Frag} {n q : Str} {st : Stmt} {f : Addr} {fd : FuncData} (F : Fun K n q st f fd) : PySem.W.fnIn K f = true := by
  obtain ⟨oc, od, kV, doc, pm, an, cdv, ct, osl, rfl, lk, hcd⟩ := F.ex
  unfold PySem.W.fnIn
  rw [lk]
theorem pe_ixO (ha : PE X a ta) (hb : PE X b tb) (own : PySem.W.findIn X.K (.ref C) "__getitem__" = some (some (.ref f))) (fn : PySem.W.fnIn X.K f = true) (isF : PySem.W.isFn X.K (.ref f) = true)
    (F : FnOk X.prog X.w X.K X.mg X.base CX k f fd ps sp) (binds : L2.Binds X.K fd ps []) (room : Room (k + 1) X.A) (hx : Passes CX X E)
    (hs : ∀ o i, subscripted b true o i = runValue (.builtin "lifetime.subscript" ⟨[o, i], []⟩) := by intro _ _; rfl) : PE X (.Subscript a b pos) (tIxO C sp E ta tb) := by
  refine ⟨fun pins s σ H Q I h => ?_⟩
  refine Subscript_ (binT (R := fun x y H2 => ∃ (o dx : Addr) (fs : List (Str × V)), x = .ref o ∧ H2 o = some (.ins C dx fs) ∧ sp [x, y] H2 Q E) ha hb I h fun v u s2 x y H2 I2 rx ry ⟨o, dx, fs, ex, ho, q⟩ => ?_)
  subst ex
  cases (show v = Value.ref o from rx)
  obtain ⟨mA, O, _⟩ := ins_get I2.hok ho
  obtain ⟨od, J, _⟩ := O.look
  obtain ⟨m, hF⟩ := I2.fr
  have r2 : Vals [V.ref o, y] [Value.ref o, u] := .cons rfl (.cons ry .nil)
  have many : ([Value.ref o, u] ++ ([] : List Value)).length = ps.length := r2.length.symm.trans (F.len _ _ _ _ q)
  refine PySem.W.sub_K hF I2.ok.mod.kin J own fn isF ?_ (hs _ _)
  refine wpAny_call (codeAny_mono (F.run X.A.in1 X.stack s2 H2 ⟨[.ref o, u], []⟩ ([.ref o, u] ++ []) [.ref o, y] Q E room.in1 I2.env0.in1 (binds s2 [.ref o, u] I2.kIn many) r2 q) fun res s' got => ?_)
  match res, got with
  | .error e, got => exact hx pins σ H2 s2 e s' I2 got
  | .ok (.ret z), got => exact I2.after got
  | .ok .next, got => exact got.elim
  | .ok .brk, got => exact got.elim
  | .ok .cont, got => exact got.elim
end
/-! ### places -/
theorem form_per {W : Nat → Int} {b p : Nat} (f : Form W b p) : ∀ k i, b ≤ i → W (i + p * k) = W i
  | 0, i, _ => by rw [Nat.mul_zero, Nat.add_zero]
  | k + 1, i, h => by rw [show i + p * (k + 1) = (i + p * k) + p by rw [Nat.mul_succ]; omega, f.per _ (by omega), form_per f k i h]
/-- the worth by the least form is the worth by the row that was told -/
theorem form_at {W : Nat → Int} {b p : Nat} (f : Form W b p) (h : Nat) : W (if h < b then h else b + (h - b) % p) = W h := by
  by_cases c : h < b
  · rw [if_pos c]
  · rw [if_neg c]
    have d := Nat.div_add_mod (h - b) p
    have q := form_per f ((h - b) / p) (b + (h - b) % p) (by omega)
    rw [← q]
    congr 1
    omega
/-! ### words -/
end Fz

set_option Elab.async false
set_option linter.all false
set_option maxRecDepth 100000
set_option maxHeartbeats 2000000
/-! Own layer: texts of rows, which differ; values with their data, apart from two lists that change. -/
namespace Fz
open PySem PySem.Spec PyProof.Rows L2
/-! ### values -/
end Fz

set_option Elab.async false
set_option linter.all false
set_option maxRecDepth 100000
set_option maxHeartbeats 2000000
/-! Own layer: x in y by y's own __contains__; bool of an instance by its own __bool__; any of a tuple. -/
namespace Fz
open PySem PySem.Spec PyProof.Rows L2
section
variable {X : Cx} {C f : Addr} {fd : FuncData} {ps : List Str} {sp : Sp} {k : Nat}
end
section
variable {prog : Program} {w : World} {A : Around} {E : Value → Shared → Prop} {s : Shared} {K : PySem.W.Frag} {x C f : Addr} {ox : Obj} {od : Option Obj}
end
section
variable {X : Cx} {C f : Addr} {fd : FuncData} {ps : List Str} {sp : Sp} {k : Nat}
end
end Fz

set_option Elab.async false
set_option linter.all false
set_option maxRecDepth 100000
set_option maxHeartbeats 2000000
/-! Own layer: size sets as objects; what comes again behind some place (pure); their words. -/
namespace Fz
open PySem PySem.Spec PyProof.Rows L2
/-! ### words -/
end Fz

set_option Elab.async false
set_option linter.all false
set_option maxRecDepth 100000
set_option maxHeartbeats 2000000
/-! Own layer: x & y and the like of two instances of one class; ~x. -/
namespace Fz
open PySem PySem.Spec PyProof.Rows L2
section
variable {X : Cx} {C f : Addr} {fd : FuncData} {ps : List Str} {sp : Sp} {k : Nat}
end
end Fz

set_option Elab.async false
set_option linter.all false
set_option maxRecDepth 100000
set_option maxHeartbeats 4000000
/-! Own layer: tuple * 1; tuple * k for k from 1 on. -/
namespace Fz
open PySem PySem.Spec PyProof.Rows L2
theorem once_meets (l : Addr) (items : Array Value) (n : Nat) (dd : Option Addr) (sl : Array (Option Value)) (u : Tok) :
    Meets (Builtin.«tuple.__mul__» ⟨[.ref l, .int 1 u], []⟩) (fun _ R s => s.heap.get? l = some { cls := .type "tuple", dict := dd, data := .seq items n, slots := sl } ∧ R (.ok (.ret (Value.ref l))) s) :=
  .of_wp fun prog w A R s h => by
    obtain ⟨hp, g, d, tk, os⟩ := s
    obtain ⟨hl, h⟩ := h
    have f1 := AutoSeq1.idx_int
    wp_walk using wpAny_loadPart' hl
    exact ⟨_, rfl, h⟩
/-- tuple * k, k from 1 on -/
def rMulA (K : PySem.W.Frag) : R2 := fun x y H Q => ∃ l k xs, x = .ref l ∧ y = .int k ∧ SqT K H l xs ∧ xs ≠ [] ∧ 1 ≤ k ∧ k ≤ 1000 ∧ xs.length ≤ 1000 ∧ (k = 1 → Q (.ref l) H) ∧ (k ≠ 1 → ∀ p, H p = none → Q (.ref p) (upd H p (.tup (List.replicate k.toNat xs).flatten)))
section
variable {X : Cx}
theorem op_rep1 : OpR X (binaryOp .Mult) (fun x y H Q => ∃ l xs, x = .ref l ∧ y = .int 1 ∧ SqT X.K H l xs ∧ Q (.ref l) H) := by
  intro pins s σ H x y v u Q I rx ry h
  obtain ⟨l, xs, rfl, rfl, hT, q⟩ := h
  cases rx
  obtain ⟨t, rfl⟩ := ry
  obtain ⟨vals, rel, ⟨⟨c0, d0, body, slots⟩, at0, ec, num, ed⟩, _⟩ := I.tuple hT
  obtain rfl : c0 = _ := ec
  obtain rfl : body = _ := ed
  have own : s.TypeIs (.ref l) "tuple" := ⟨_, at0, rfl⟩
  refine wpAny_binaryOp_repeat_ref (T := "tuple") (U := "int") (ix := .builtin "int.__index__") (by decide) own (fun z => typeIs_int z 1 t) noFill_tuple_mul F.fills_int_mul
    F.slot_int_rmul repeat_tuple F.slot_int_index.lookup ?_
  refine call_meets F.slot_int_rmul (typeIs_int s 1 t) F.entry_int_rmul (F.args_int_rmul_2 _ _) (int_rmul_tuple 1 t l vals.toArray num d0 slots) ?_
  refine ⟨at0, rfl, own, ?_⟩
  refine call_meets F.slot_tuple_mul own F.entry_tuple_mul (F.args_tuple_mul_2 _ _) (once_meets l vals.toArray num d0 slots t) ?_
  exact ⟨at0, V.ref l, H, I, rfl, q⟩
theorem op_repA : OpR X (binaryOp .Mult) (rMulA X.K) := by
  intro pins s σ H x y v u Q I rx ry h
  obtain ⟨l, k, xs, rfl, rfl, hT, hne, h1, h2, hz, q1, q2⟩ := h
  by_cases e : k = 1
  · subst e
    exact op_rep1 pins s σ H _ _ v u Q I rx ry ⟨l, xs, rfl, rfl, hT, q1 rfl⟩
  · exact op_repT pins s σ H _ _ v u Q I rx ry ⟨l, k, xs, rfl, rfl, hT, hne, by omega, h2, hz, q2 e⟩
end
end Fz
namespace Fz
open PySem PySem.Spec PyProof.Rows L2
section
variable {K : PySem.W.Frag} {H : Hp} {Q : VK} {a b : Addr} {xs ys : List V} {k : Int}
theorem cat_b (ha : H a = some (.tup xs)) (hb : H b = some (.tup ys)) (z : xs.length + ys.length ≤ sizeLine) (fin : ∀ t H', Same H H' → H' t = some (.tup (xs ++ ys)) → Q (.ref t) H') : rCatA K (.ref a) (.ref b) H Q := by
  refine ⟨a, b, xs, ys, rfl, rfl, SqT.of ha, SqT.of hb, z, fun e => ?_, fun _ e => ?_, fun _ _ p hp => fin p _ (Same.new hp) upd_same⟩
  · subst e
    exact fin b H (fun _ _ z => z) hb
  · subst e
    exact fin a H (fun _ _ z => z) (by rw [List.append_nil]; exact ha)
theorem mul_b (ha : H a = some (.tup xs)) (ne : xs ≠ []) (k1 : 1 ≤ k) (k2 : k ≤ 1000) (few : xs.length ≤ 1000) (fin : ∀ t H', Same H H' → H' t = some (.tup (List.replicate k.toNat xs).flatten) → Q (.ref t) H') : rMulA K (.ref a) (.int k) H Q := by
  refine ⟨a, k, xs, rfl, rfl, SqT.of ha, ne, k1, k2, few, fun e => ?_, fun _ p hp => fin p _ (Same.new hp) upd_same⟩
  subst e
  refine fin a H (fun _ _ z => z) ?_
  rw [show ((1 : Int)).toNat = 1 from rfl, show List.replicate 1 xs = [xs] from rfl, List.flatten_cons, List.flatten_nil, List.append_nil]
  exact ha
end
end Fz

set_option Elab.async false
set_option linter.all false
set_option maxRecDepth 100000
set_option maxHeartbeats 2000000
/-! Own layer: the truth of an instance by its own __bool__, as a test; a def called by keywords alone. -/
namespace Fz
open PySem PySem.Spec PyProof.Rows L2
section
variable {X : Cx} {C f : Addr} {fd : FuncData} {ps : List Str} {sp : Sp} {k : Nat}
/-- if x, x an instance of C -/
def rTruO (C : Addr) (sp : Sp) : V → Hp → (Bool → Hp → Prop) → Prop := fun x H Q => ∃ (a dx : Addr) (fs : List (Str × V)), x = .ref a ∧ H a = some (.ins C dx fs) ∧ sp [.ref a] H (fun z H' => ∃ c, z = .bl c ∧ Q c H') E0
theorem truO (own : PySem.W.findIn X.K (.ref C) "__bool__" = some (some (.ref f))) (isF : PySem.W.isFn X.K (.ref f) = true) (F : FnOk X.prog X.w X.K X.mg X.base CX0 k f fd ps sp) (binds : L2.Binds X.K fd ps []) (room : Room k X.A) : TruR X (rTruO C sp) := by
  intro pins s σ H x v Q I rx h
  obtain ⟨a, dx, fs, rfl, ha, q⟩ := h
  cases (show v = Value.ref a from rx)
  obtain ⟨mA, O, _⟩ := ins_get I.hok ha
  obtain ⟨od, J, _⟩ := O.look
  unfold truthy
  refine wpAny_bind (m := callSpecial? (.ref a) (Str.ofString "__bool__")) (PySem.W.special_fn I.kIn J own (beq_iff_eq.mp isF) (wpAny_mono (run_fn (us := [.ref a]) (vs := [.ref a]) F room binds .nil pass0 I (.cons rfl .nil) q) (fun r s' z => ?_) fun _ _ z => z))
  obtain ⟨z', H', I', rz, c, rfl, qz⟩ := z
  cases (show r = Value.bool c from rz)
  exact wpAny_pure ⟨H', I', qz⟩
theorem TruR.or {r r' : V → Hp → (Bool → Hp → Prop) → Prop} (h : TruR X r) (h' : TruR X r') : TruR X (fun x H Q => r x H Q ∨ r' x H Q) := by
  intro pins s σ H x v Q I rx q
  rcases q with q | q
  · exact h pins s σ H x v Q I rx q
  · exact h' pins s σ H x v Q I rx q
end
section
variable {X : Cx} {CX : CXT} {k : Nat} {f : Addr} {fd : FuncData} {ps ks : List Str} {sp : Sp} {E : XK} {x : Str} {p pos : Pos} {kws : List Keyword} {tk : TA} {g : List Value → List Value → List Value} {gV : List V → List V → List V}
/-- f(k = v, ..) -/
theorem pe_callK0 (F : FnOk X.prog X.w X.K X.mg X.base CX k f fd ps sp) (hr : Room k X.A) (hg : Gl X x) (hm : X.mg x = some (.ref f)) (hk : PySem.W.keepIn X.K (.ref f) = true) (hb : KBn X.K fd ps 0 ks g gV) (hx : Passes CX X E)
    (hkw : PK X kws tk) (hall : (backToKw pos (keywordEach kws X.env)).all (·.1.isSome) = true := by rfl) (hks : (backToKw pos (keywordEach kws X.env)).filterMap (·.1) = ks := by rfl)
    (hdb : (x == ("__debug__" : Str)) = false := by decide)
    (hpl : ((backTo pos (starEach [] X.env)).any (·.1) || (backToKw pos (keywordEach kws X.env)).any (·.1.isNone)) = false := by rfl) :
    PE X (.Call (.Name x p) [] kws pos) (fun σ H Q => tk σ H fun zs H2 => zs.length = ks.length ∧ sp (gV [] zs) H2 Q E) := by
  refine ⟨fun pins s σ H Q I h => ?_⟩
  refine wpAny_Call_Name_kw (ld_glob I hg hm ?_ hdb)
  refine PySem.W.callWith_KW0 (h₀ := X.base) I.ok.mod.kin hk hall ?_ hpl
  refine thn (hkw.run pos pins s σ H _ I h) fun ws s2 ⟨zs, H2, I2, rz, l2, q2⟩ => ⟨I2.kIn, ?_⟩
  rw [hks]
  exact run_fnN (us := []) (vs := []) F hr hb hx I2 .nil rz rfl l2 q2
end
/-! ### lists of a known length; what comes after a statement, hidden -/
theorem lcons {P : List Value → Prop} {n : Nat} (h : ∀ a r, r.length = n → P (a :: r)) (us : List Value) (hl : us.length = n + 1) : P us := by
  cases us with
  | nil => cases hl
  | cons a r => exact h a r (Nat.succ.inj hl)
theorem lnil {P : List Value → Prop} (h : P []) (us : List Value) (hl : us.length = 0) : P us := by
  cases us with
  | nil => exact h
  | cons a r => cases hl
theorem len1 {P : List Value → Prop} (h : ∀ a, P [a]) : ∀ us : List Value, us.length = 1 → P us := lcons fun a => lnil (P := fun r => P (a :: r)) (h a)
theorem len2 {P : List Value → Prop} (h : ∀ a b, P [a, b]) : ∀ us : List Value, us.length = 2 → P us := lcons fun a => len1 (P := fun r => P (a :: r)) (h a)
theorem len3 {P : List Value → Prop} (h : ∀ a b c, P [a, b, c]) : ∀ us : List Value, us.length = 3 → P us := lcons fun a => len2 (P := fun r => P (a :: r)) (h a)
theorem len4 {P : List Value → Prop} (h : ∀ a b c d, P [a, b, c, d]) : ∀ us : List Value, us.length = 4 → P us := lcons fun a => len3 (P := fun r => P (a :: r)) (h a)
theorem len5 {P : List Value → Prop} (h : ∀ a b c d e, P [a, b, c, d, e]) : ∀ us : List Value, us.length = 5 → P us := lcons fun a => len4 (P := fun r => P (a :: r)) (h a)
theorem ex2 (us : List Value) (h : us.length = 2) : ∃ a b, us = [a, b] := len2 (P := fun us => ∃ a b, us = [a, b]) (fun _ _ => ⟨_, _, rfl⟩) us h
theorem ex3 (us : List Value) (h : us.length = 3) : ∃ a b c, us = [a, b, c] := len3 (P := fun us => ∃ a b c, us = [a, b, c]) (fun _ _ _ => ⟨_, _, _, rfl⟩) us h
theorem ex4 (us : List Value) (h : us.length = 4) : ∃ a b c d, us = [a, b, c, d] := len4 (P := fun us => ∃ a b c d, us = [a, b, c, d]) (fun _ _ _ _ => ⟨_, _, _, _, rfl⟩) us h
theorem ex5 (us : List Value) (h : us.length = 5) : ∃ a b c d e, us = [a, b, c, d, e] := len5 (P := fun us => ∃ a b c d e, us = [a, b, c, d, e]) (fun _ _ _ _ _ => ⟨_, _, _, _, _, rfl⟩) us h
theorem hide {A B : TS} {D : Ends} {σ : L2.St} {H : Hp} (h : ∀ R : L2.St → Hp → Prop, (∀ σ' H', B D σ' H' → R σ' H') → A { D with nx := R } σ H) : tSeq A B D σ H := h (B D) fun _ _ z => z
end Fz

set_option Elab.async false
set_option linter.all false
set_option maxRecDepth 100000
set_option maxHeartbeats 2000000
namespace Fz
open PySem PySem.Spec PyProof.Rows L2
/-- one step of a reading -/
local macro_rules | `(tactic| walk_at "st") => `(tactic| first
  | refine ⟨_, rfl, ?_⟩
  | refine Or.inl ⟨_, rfl, ?_⟩
  | refine Or.inr ⟨_, rfl, ?_⟩
  | refine ⟨_, _, _, _, rfl, rfl, SqL.of (by first | assumption | exact upd_same), rfl, ?_⟩
  | refine ⟨_, _, _, _, rfl, rfl, (by first | assumption | exact upd_same), rfl, ?_⟩
  | refine ⟨_, _, rfl, .inl ⟨_, SqL.of (by first | assumption | exact upd_same), rfl⟩, ?_⟩
  | refine ⟨_, _, rfl, rfl, (show (0 : Int) < _ by first | decide | omega), ?_⟩
  | refine ⟨_, _, rfl, rfl, (show (0 : Int) < _ ∧ _ < _ by first | exact ⟨by decide, by decide⟩ | omega), ?_⟩
  | refine ⟨_, _, rfl, rfl, (show (_ < _ ∧ _ < _) ∨ (_ < _ ∧ _ < _) by first | exact .inl ⟨by decide, by decide⟩ | omega), ?_⟩
  | refine ⟨_, _, rfl, rfl, (show (0 : Int) ≤ _ ∧ _ ≤ _ ∧ _ < _ by first | exact ⟨by decide, by decide, by decide⟩ | exact ⟨by decide, by decide, by omega⟩), ?_⟩
  | refine ⟨_, _, rfl, rfl, ?_⟩)

/-! ### the text -/
def topS (i : Nat) : Stmt := PySem.Challenge.pw_freetakes_k68_turned_heaps_looked_at.main.body.getD i (.Pass ⟨0, 0, 0, 0⟩)

abbrev s_pen : Stmt := topS 52
abbrev s_draw : Stmt := topS 53
abbrev s_pick : Stmt := topS 54
section
variable {P : Program} {w : World} {K : PySem.W.Frag} {mg : Str → Option Value} {base : Heap}

theorem sc_pen : FnScope ["_law_script"] ["_law_script"] (defScope s_pen) := ⟨rfl, rfl, rfl, by decide +kernel, rfl, by decide +kernel, by decide +kernel⟩
theorem ok_pen {f : Addr} {fd : FuncData} (F : Fun K "_law_pen" "_law_pen" s_pen f fd) (T : Blt mg) : FnOk P w K mg base CX0 1 f fd ["_law_script"] (spPen K) := by
  refine F.ok sc_pen (fun vs H Q E h => ?_) (fun cdv A outer s H vs Q E hr h => ?_)
  · obtain ⟨a, ns, rfl, _⟩ := h
    rfl
  · obtain ⟨a, ns, rfl, hS, hl, k⟩ := h
    refine ⟨_, (pss_one (ps_ret (pe_lst (pa_cons (pe_callTy call_list_of rfl T.z_list (by decide +kernel) (pa_cons (pe_slice sl_list (pv 0) po_none (po_some pe_int)) pa_nil)) (pa_cons pe_int (pa_cons pe_int pa_nil)))))), ?_⟩
    refine ⟨_, rfl, _, rfl, _, _, rfl, hS, fun l0 hl0 => ⟨_, _, rfl, .inl (SqL.of upd_same), fun l1 hl1 => ⟨by show 3 ≤ sizeLine; decide, fun p hp => ?_⟩⟩⟩
    have n01 : l1 ≠ l0 := fun z => by rw [z, upd_same] at hl1; cases hl1
    have h1 : H l1 = none := by rw [upd_ne n01] at hl1; exact hl1
    have npl1 : p ≠ l1 := fun z => by rw [z, upd_same] at hp; cases hp
    have hp1 : (upd H l0 (.lst (cutV (List.map V.int ns) none (some 63)))) p = none := by rw [upd_ne npl1] at hp; exact hp
    have npl0 : p ≠ l0 := fun z => by rw [z, upd_same] at hp1; cases hp1
    have hp0 : H p = none := by rw [upd_ne npl0] at hp1; exact hp1
    have ecut : cutV (List.map V.int ns) none (some 63) = List.map V.int ns := by
      unfold cutV
      show List.take (HT.sIx (List.map V.int ns).length (List.map V.int ns).length (some (63 : Int)) - 0) (List.drop 0 (List.map V.int ns)) = _
      rw [show ((63 : Int)) = ((63 : Nat) : Int) from rfl, HT.sIx_nat, List.drop_zero, Nat.sub_zero]
      exact List.take_of_length_le (by rw [List.length_map]; omega)
    refine k _ p l1 hp0 h1 ⟨ns, 0, 0, upd_same, ?_, Ne.symm npl1, hl, Int.le_refl _, Int.le_refl _⟩ (fun b o e => ?_)
    · rw [upd_ne (Ne.symm npl1), upd_same, ecut]
    · rw [upd_ne (ne_of_none e hp0), upd_ne (ne_of_none e h1), upd_ne (ne_of_none e hl0)]
      exact e
theorem sc_draw : FnScope ["_law_pen_here", "_law_many", "_law_spot", "_law_cell", "_law_mixed", "_law_digit", "_law_great"] ["_law_pen_here", "_law_many"] (defScope s_draw) := ⟨rfl, rfl, rfl, by decide +kernel, rfl, by decide +kernel, by decide +kernel⟩
theorem ok_draw {f : Addr} {fd : FuncData} (F : Fun K "_law_draw" "_law_draw" s_draw f fd) (T : Blt mg) : FnOk P w K mg base CX0 1 f fd ["_law_pen_here", "_law_many"] spDraw := by
  refine F.ok sc_draw (fun vs H Q E h => ?_) (fun cdv A outer s H vs Q E hr h => ?_)
  · obtain ⟨n, p, q, m, rfl, _⟩ := h
    rfl
  · obtain ⟨n, p, q, m, rfl, ⟨ns, spot, great, hp, hq, hqp, hl, h0, h1⟩, hn, hm, hm2, k⟩ := h
    refine ⟨_, (pss_cons (ps_if (pt_cmpR op_gt (pe_ix ix_list (pv 0) pe_int (fun _ _ => rfl)) pe_int (nomark _)) (pss_cons (ps_set (i := 5) sc_draw.nd rfl (Or.inl rfl) (pe_op op_mod (pe_callTy call_int1 rfl T.z_int (by decide +kernel) (pa_cons (pe_ix ix_list (pv 0) pe_int (fun _ _ => rfl)) pa_nil)) (pv 1)))
  (pss_cons (ps_asg (pe_op op_fdivW (pe_callTy call_int1 rfl T.z_int (by decide +kernel) (pa_cons (pe_ix ix_list (pv 0) pe_int (fun _ _ => rfl)) pa_nil)) (pv 1)) (pg_sub (pv 0) pe_int set_list))
  (pss_one (ps_ret (pv 5))))) pss_nil)
  (pss_cons (ps_set (i := 2) sc_draw.nd rfl (Or.inl rfl) (pe_ix ix_list (pv 0) pe_int (fun _ _ => rfl)))
  (pss_cons (ps_asg (pe_op op_add (pv 2) pe_int) (pg_sub (pv 0) pe_int set_list))
  (pss_cons (ps_set (i := 3) sc_draw.nd rfl (Or.inl rfl) (pe_op op_add (pe_op op_mul pe_int (pv 2)) pe_int))
  (C8.pss_cut (ps_if (pt_cmpR (op_neD hr.units) (pe_ix ix_list (pv 0) pe_int (fun _ _ => rfl)) (pe_lst pa_nil) (nomark _)) (pss_one (ps_set (i := 3) sc_draw.nd rfl (Or.inl rfl) (pe_ix ix_list (pe_ix ix_list (pv 0) pe_int (fun _ _ => rfl)) (pe_op op_mod (pe_callTy call_int1 rfl T.z_int (by decide +kernel) (pa_cons (pv 2) pa_nil)) (pe_callB call_len rfl T.z_len (by decide +kernel) (pa_cons (pe_ix ix_list (pv 0) pe_int (fun _ _ => rfl)) pa_nil))) (fun _ _ => rfl)))) pss_nil)
  (C8.pss_cut (ps_if (PW.pt (pw_and (pt_cmpR op_lt (pv 2) (pe_callB call_len rfl T.z_len (by decide +kernel) (pa_cons (pe_ix ix_list (pv 0) pe_int (fun _ _ => rfl)) pa_nil)) (nomark _)) (pw_and1 (pt_cmpR op_ge (pe_callB call_abs rfl T.z_abs (by decide +kernel) (pa_cons (pv 3) pa_nil)) (pe_op op_pow pe_int pe_int) (nomark _))))) (pss_cons (ps_set (i := 6) sc_draw.nd rfl (Or.inl rfl) (pe_op op_add (pe_op op_mul pe_int (pe_op op_sub (pe_callB call_abs rfl T.z_abs (by decide +kernel) (pa_cons (pv 3) pa_nil)) (pe_op op_pow pe_int pe_int))) (pe_callTy call_int1 rfl T.z_int (by decide +kernel) (pa_cons (pe_cmpR op_lt (pv 3) pe_int (nomark _)) pa_nil))))
  (pss_cons (ps_asg (pe_op op_fdivW (pe_callTy call_int1 rfl T.z_int (by decide +kernel) (pa_cons (pv 6) pa_nil)) (pv 1)) (pg_sub (pv 0) pe_int set_list))
  (pss_one (ps_ret (pe_op op_mod (pe_callTy call_int1 rfl T.z_int (by decide +kernel) (pa_cons (pv 6) pa_nil)) (pv 1)))))) pss_nil)
  (C8.pss_cut (ps_set (i := 4) sc_draw.nd rfl (Or.inl rfl) (pe_op op_mod (pe_callTy call_int1 rfl T.z_int (by decide +kernel) (pa_cons (pe_op op_pow (pe_op op_add (pe_op op_add (pe_op op_mod (pe_callTy call_int1 rfl T.z_int (by decide +kernel) (pa_cons (pv 3) pa_nil)) pe_int) (pe_op op_mul pe_int (pv 2))) pe_int) pe_int) pa_nil)) pe_int))
  (pss_cons (ps_set (i := 4) sc_draw.nd rfl (Or.inl rfl) (pe_op op_mod (pe_callTy call_int1 rfl T.z_int (by decide +kernel) (pa_cons (pe_op op_pow (pe_op op_add (pe_op op_add (pe_op op_mul (pv 4) (pe_op op_add (pe_op op_mul pe_int (pv 2)) pe_int)) (pe_op op_mul (pe_op op_mul pe_int (pv 2)) (pv 2))) pe_int) pe_int) pa_nil)) pe_int))
  (pss_one (ps_ret (pe_op op_mod (pe_callTy call_int1 rfl T.z_int (by decide +kernel) (pa_cons (pe_op op_fdiv (pv 4) pe_int) pa_nil)) (pv 1)))))))))))), ?_⟩
    iterate 4 walk_at "st"
    refine ite2 (fun hg => ?_) (fun hg => ?_)
    · repeat walk_at "st"
      exact k _ _ ⟨ns, spot, great / m, upd_same, by rw [upd_ne hqp]; exact hq, hqp, hl, h0, by omega⟩ Mv.here (Int.emod_nonneg _ (by omega)) (Int.emod_lt_of_pos _ hm)
    · repeat walk_at "st"
      have mul0 : spot ≤ 100000 := by omega
      refine ⟨fun σ' H' => ∃ cell : Int, σ' = [some (.ref p), some (.int m), some (.int spot), some (.int cell), none, none, none] ∧ H' p = some (.lst [.ref q, .int (spot + 1), .int great]) ∧ H' q = some (.lst (ns.map V.int)) ∧ Mv p H H', ?_, ?_⟩
      · have hq1 : upd H p (.lst [.ref q, .int (spot + 1), .int great]) q = some (.lst (ns.map V.int)) := by rw [upd_ne hqp]; exact hq
        have hp1 : upd H p (.lst [.ref q, .int (spot + 1), .int great]) p = some (.lst [.ref q, .int (spot + 1), .int great]) := upd_same
        have mv1 : Mv p H (upd H p (.lst [.ref q, .int (spot + 1), .int great])) := Mv.here
        show tIfS _ _ _ _ _ (upd H p (.lst [.ref q, .int (spot + 1), .int great]))
        generalize upd H p (.lst [.ref q, .int (spot + 1), .int great]) = H1 at hq1 hp1 mv1 ⊢
        repeat walk_at "st"
        refine ⟨Nat.zero_le _, fun l hl0 => ?_⟩
        have hp2 : upd H1 l (.lst []) p = some (.lst [.ref q, .int (spot + 1), .int great]) := by rw [upd_ne (ne_of_none hp1 hl0)]; exact hp1
        have hq2 : upd H1 l (.lst []) q = some (.lst (ns.map V.int)) := by rw [upd_ne (ne_of_none hq1 hl0)]; exact hq1
        have mv2 : Mv p H (upd H1 l (.lst [])) := mv1.trans (Mv.new hl0)
        refine ⟨_, _, Dp.lst (SqL.of hq2) (dp_ints ns), Dp.lst (SqL.of upd_same) .nil, shaped_ints ns, shaped_ints [], _, rfl, ?_⟩
        refine ite2 (fun ht => ?_) (fun _ => ⟨_, rfl, hp2, hq2, mv2⟩)
        have hne : 0 < (ns.map V.int).length := by
          cases ns with
          | nil => exact absurd ht (by decide)
          | cons z zs => rw [List.length_map]; exact Nat.succ_pos _
        have hpos : (0 : Int) < (((ns.map V.int).length : Nat) : Int) := by omega
        obtain ⟨x, hx, ax⟩ := at_mod spot hne
        obtain ⟨z, hz, rfl⟩ := List.mem_map.mp hx
        iterate 2 walk_at "st"
        iterate 2 walk_at "st"
        iterate 2 walk_at "st"
        iterate 1 walk_at "st"
        refine ⟨_, _, rfl, rfl, hpos, q, _, _, _, rfl, rfl, SqL.of hq2, ax, ?_⟩
        exact ⟨z, rfl, hp2, hq2, mv2⟩
      · rintro σ' H' ⟨cell, rfl, hp', hq', mv⟩
        have small : ∀ H'', Mv p H H'' → H'' p = some (.lst [.ref q, .int (spot + 1), .int great]) → H'' q = some (.lst (ns.map V.int)) → PenAt (n + 1) H'' p q := fun H'' _ a b => ⟨ns, spot + 1, great, a, b, hqp, hl, by omega, by omega⟩
        refine ⟨fun σ'' H'' => σ'' = [some (.ref p), some (.int m), some (.int spot), some (.int cell), none, none, none] ∧ H'' = H', ?_, ?_⟩
        · repeat walk_at "st"
          refine ite2 (fun _ => ?_) (fun _ => iteF ⟨rfl, rfl⟩)
          repeat walk_at "st"
          refine ite2 (fun _ => ?_) (fun _ => ⟨rfl, rfl⟩)
          repeat walk_at "st"
          exact k _ _ ⟨ns, spot + 1, _, upd_same, by rw [upd_ne hqp]; exact hq', hqp, hl, by omega, by omega⟩ (mv.trans Mv.here) (Int.emod_nonneg _ (by omega)) (Int.emod_lt_of_pos _ hm)
        · rintro σ'' H'' ⟨rfl, rfl⟩
          refine ⟨fun σ₂ H₂ => ∃ mixed : Int, σ₂ = [some (.ref p), some (.int m), some (.int spot), some (.int cell), some (.int mixed), none, none] ∧ 0 ≤ mixed ∧ mixed < 2147483648 ∧ H₂ = H'', ?_, ?_⟩
          · repeat walk_at "st"
            exact ⟨Int.emod_nonneg _ (by decide), Int.lt_trans (Int.emod_lt_of_pos _ (by decide)) (by decide), rfl⟩
          · rintro σ₂ H₂ ⟨mixed, rfl, m0, m1, rfl⟩
            have b1 : 0 ≤ mixed * (2 * spot + 237) := Int.mul_nonneg m0 (by omega)
            have b2 : mixed * (2 * spot + 237) ≤ 2147483648 * 300000 := Int.mul_le_mul (by omega) (by omega) (by omega) (by omega)
            have b3 : 0 ≤ 61169 * spot * spot := Int.mul_nonneg (by omega) h0
            have b4 : 61169 * spot * spot ≤ 6116900000 * 100000 := Int.mul_le_mul (by omega) (by omega) (by omega) (by omega)
            repeat walk_at "st"
            exact k _ _ (small _ mv hp' hq') mv (Int.emod_nonneg _ (by omega)) (Int.emod_lt_of_pos _ hm)
theorem sc_pick : FnScope ["_law_pen_here", "_law_some"] ["_law_pen_here", "_law_some"] (defScope s_pick) := ⟨rfl, rfl, rfl, by decide +kernel, rfl, by decide +kernel, by decide +kernel⟩
theorem ok_pick {f fD : Addr} {fd fdD : FuncData} (F : Fun K "_law_pick" "_law_pick" s_pick f fd) (T : Blt mg) (D : Fun K "_law_draw" "_law_draw" s_draw fD fdD) (gD : mg "_law_draw" = some (.ref fD)) (b_draw : L2.Binds K fdD ["_law_pen_here", "_law_many"] []) :
    FnOk P w K mg base CX0 2 f fd ["_law_pen_here", "_law_some"] (spPick K) := by
  have G_draw : FnOk P w K mg base CX0 1 fD fdD ["_law_pen_here", "_law_many"] spDraw := ok_draw D T
  refine F.ok sc_pick (fun vs H Q E h => ?_) (fun cdv A outer s H vs Q E hr h => ?_)
  · obtain ⟨n, p, q, l, xs, rfl, _⟩ := h
    rfl
  · obtain ⟨n, p, q, l, xs, rfl, hp, hn, hlp, hl, h0, h1, k⟩ := h
    refine ⟨_, (pss_one (ps_ret (pe_ix ix_list (pv 1) (pe_call G_draw (hr.mono (by decide)) rfl gD D.kp b_draw .nil pass0 (by exact (pa_cons (pv 0) (pa_cons (pe_callB call_len rfl T.z_len (by decide +kernel) (pa_cons (pv 1) pa_nil)) pa_nil)))) (fun _ _ => rfl)))), ?_⟩
    iterate 3 walk_at "st"
    refine ⟨_, _, rfl, .inl ⟨_, SqL.of hl, rfl⟩, n, p, q, _, rfl, hp, hn, by omega, small_log (by omega) (by omega), fun H' r hp' mv r0 r1 => ?_⟩
    obtain ⟨x, hx, ax⟩ := at_in r0 r1
    exact ⟨_, _, _, _, rfl, rfl, SqL.of (mv l _ hlp hl), ax, k H' x hp' mv hx⟩
end
section
variable {P : Program} {w : World} {K : PySem.W.Frag} {mg : Str → Option Value} {base : Heap}

abbrev s_rank_of : Stmt := topS 25
abbrev s_rested : Stmt := inClass (topS 19) 0
abbrev s_sized : Stmt := inClass (topS 20) 0
abbrev s_fixed : Stmt := inClass (topS 21) 0
abbrev s_down : Stmt := inClass (topS 22) 0
abbrev s_is_number : Stmt := topS 11
theorem sc_is_number : FnScope ["value", "least", "most"] ["value", "least", "most"] (defScope s_is_number) := ⟨rfl, rfl, rfl, by decide +kernel, rfl, by decide +kernel, by decide +kernel⟩
theorem ok_is_numberX {f : Addr} {fd : FuncData} (F : Fun K "is_number" "is_number" s_is_number f fd) (T : Blt mg) : FnOk P w K mg base CX0 1 f fd ["value", "least", "most"] (spNumX K) := by
  refine F.ok sc_is_number (fun vs H Q E h => ?_) (fun cdv A outer s H vs Q E hr h => ?_)
  · obtain ⟨x, lo, hi, rfl, _⟩ := h
    rfl
  · obtain ⟨x, lo, hi, rfl, kd, k⟩ := h
    obtain ⟨t, ty, k1, k2⟩ := kd
    refine ⟨_, (pss_one (ps_ret (pe_and (pe_callB call_isi rfl T.z_isinstance (by decide +kernel) (pa_cons (pv 0) (pa_cons (pe_bltn (v := .ty "int") rfl T.z_int (by decide +kernel) rfl) pa_nil))) (pe_and (pe_not (pe_callB call_isi rfl T.z_isinstance (by decide +kernel) (pa_cons (pv 0) (pa_cons (pe_bltn (v := .ty "bool") rfl T.z_bool (by decide +kernel) rfl) pa_nil)))) (pe_one (pe_chain op_le op_le (pv 1) (pv 0) (pv 2))))))), ?_⟩
    refine ⟨_, rfl, _, _, _, _, _, rfl, .ty "int", ty, k1, _, rfl, ?_⟩
    refine ite2 (fun i1 => ?_) (fun i1 => ?_)
    · refine ⟨_, rfl, _, _, _, _, _, rfl, .ty "bool", ty, k2, _, rfl, _, rfl, ?_⟩
      refine ite2 (fun i2 => ?_) (fun i2 => ?_)
      · obtain ⟨i, rfl⟩ : ∃ i, x = V.int i := by
          cases x with
          | int i => exact ⟨i, rfl⟩
          | bl b => exact absurd i2 Bool.false_ne_true
          | _ => exact absurd i1 Bool.false_ne_true
        iterate 2 walk_at "st"
        refine ⟨_, _, rfl, rfl, _, rfl, ?_⟩
        refine ite2 (fun i3 => ?_) (fun i3 => ?_)
        · iterate 2 walk_at "st"
          have e : numV lo hi (.int i) = decide (i ≤ hi) := by
            show (decide (lo ≤ i) && decide (i ≤ hi)) = _
            rw [i3, Bool.true_and]
          show Q (.bl (decide (i ≤ hi))) _
          rw [← e]
          exact k
        · have e : numV lo hi (.int i) = false := by
            show (decide (lo ≤ i) && decide (i ≤ hi)) = _
            rw [Bool.eq_false_iff.mpr i3, Bool.false_and]
          rw [e] at k
          exact k
      · have e : numV lo hi x = false := by
          cases x with
          | int i => exact absurd rfl i2
          | _ => rfl
        rw [e] at k
        exact k
    · have e : numV lo hi x = false := by
        cases x with
        | int i => exact absurd rfl i1
        | _ => rfl
      rw [e] at k
      exact k
theorem it_int {H : Hp} {i : Int} : IntTy K H (.int i) := ⟨_, .base (.int i), kit_ty (show kitB "int" "int" = some true by decide +kernel), kit_ty (show kitB "int" "bool" = some false by decide +kernel)⟩
/-- what the rules' makers ask of the module, where nothing is wrong -/
structure PrgR (K : PySem.W.Frag) (mg : Str → Option Value) (CRl : Addr) : Prop where
  g_Rule : mg "Rule" = some (.ref CRl)
  rdRl : ClX.CRead K CRl (.type "type")
  most : ∃ u, ClX.CVal K CRl (.type "type") "MOST" (.int 400) u
  mostM : ∃ u, ClX.CVal K CRl (.type "type") "MOST_MODULUS" (.int 6) u
section
variable {CRl : Addr}
theorem sc_rank_of : FnScope ["kind", "number", "modulus", "rest", "leave", "rank", "part"] ["kind", "number", "modulus", "rest", "leave"] (defScope s_rank_of) := ⟨rfl, rfl, rfl, by decide +kernel, rfl, by decide +kernel, by decide +kernel⟩
theorem ok_rank_of {f : Addr} {fd : FuncData} (F : Fun K "rank_of" "rank_of" s_rank_of f fd) (T : PrgR K mg CRl) : FnOk P w K mg base CX0 1 f fd ["kind", "number", "modulus", "rest", "leave"] spRank := by
  refine F.ok sc_rank_of (fun vs H Q E h => ?_) (fun cdv A outer s H vs Q E hr h => ?_)
  · obtain ⟨k, a, b, c, e, rfl, _⟩ := h
    rfl
  · obtain ⟨k, a, b, c, e, rfl, k0, k1, a0, a1, b0, b1, c0, c1, e0, e1, fin⟩ := h
    obtain ⟨u, most⟩ := T.most
    refine ⟨_, (pss_cons (ps_set (i := 5) sc_rank_of.nd rfl (Or.inl rfl) (pv 0))
  (pss_cons (ps_for PassesOwn.never rfl (pi_tup (pe_tup (pa_cons (pv 1) (pa_cons (pv 2) (pa_cons (pv 3) (pa_cons (pv 4) pa_nil)))))) (pg_name (i := 6) sc_rank_of.nd rfl (Or.inl rfl)) (pss_one (ps_set (i := 5) sc_rank_of.nd rfl (Or.inl rfl) (pe_op op_add (pe_op op_mul (pv 5) (pe_op op_add (ClX.pe_cval (pe_glob (v := .ref _) rfl T.g_Rule rfl)) pe_int)) (pv 6)))))
  (pss_one (ps_ret (pv 5))))), ?_⟩
    iterate 5 walk_at "st"
    refine ⟨by show 4 ≤ sizeLine; decide, fun t ht => ⟨t, rfl, ⟨_, SqT.of upd_same⟩, for_tup (K := K) (a := t) (xs := [.int a, .int b, .int c, .int e])
      (fun i σ H' => (∃ v : Option V, σ = [some (.int k), some (.int a), some (.int b), some (.int c), some (.int e), some (.int (match i with | 0 => k | 1 => k * 401 + a | 2 => (k * 401 + a) * 401 + b | 3 => ((k * 401 + a) * 401 + b) * 401 + c | _ => rankI k a b c e)), v]) ∧ H' = upd H t (.tup [.int a, .int b, .int c, .int e]))
      ⟨⟨_, rfl⟩, rfl⟩ (fun i σ H' _ q => by rw [q.2]; exact SqT.of upd_same) ?_ ?_⟩⟩
    · rintro i x σ H' hi ⟨⟨v, rfl⟩, rfl⟩
      match i, hi with
      | 0, hi =>
        cases hi
        refine ⟨_, rfl, _, _, _, _, rfl, T.rdRl, most, _, _, rfl, rfl, _, _, rfl, rfl, (show (_ < _ ∧ _ < _) ∨ (_ < _ ∧ _ < _) by omega), _, rfl, _, _, rfl, rfl, ⟨_, rfl⟩, rfl⟩
      | 1, hi =>
        cases hi
        refine ⟨_, rfl, _, _, _, _, rfl, T.rdRl, most, _, _, rfl, rfl, _, _, rfl, rfl, (show (_ < _ ∧ _ < _) ∨ (_ < _ ∧ _ < _) by omega), _, rfl, _, _, rfl, rfl, ⟨_, rfl⟩, rfl⟩
      | 2, hi =>
        cases hi
        refine ⟨_, rfl, _, _, _, _, rfl, T.rdRl, most, _, _, rfl, rfl, _, _, rfl, rfl, (show (_ < _ ∧ _ < _) ∨ (_ < _ ∧ _ < _) by omega), _, rfl, _, _, rfl, rfl, ⟨_, rfl⟩, rfl⟩
      | 3, hi =>
        cases hi
        refine ⟨_, rfl, _, _, _, _, rfl, T.rdRl, most, _, _, rfl, rfl, _, _, rfl, rfl, (show (_ < _ ∧ _ < _) ∨ (_ < _ ∧ _ < _) by omega), _, rfl, _, _, rfl, rfl, ⟨_, rfl⟩, rfl⟩
      | n + 4, hi => simp at hi
    · rintro σ H' ⟨⟨v, rfl⟩, rfl⟩
      exact ⟨_, rfl, fin _ fun b' o q => by rw [upd_ne (ne_of_none q ht)]; exact q⟩
theorem sc_rested : FnScope ["self", "rest", "modulus"] ["self", "rest", "modulus"] (defScope s_rested) := ⟨rfl, rfl, rfl, by decide +kernel, rfl, by decide +kernel, by decide +kernel⟩
/-- Rested.__init__ of numbers that are right -/
def spRestedV (C : Addr) : Sp := fun vs H Q _ => ∃ (x dx : Addr) (fs : List (Str × V)) (r m : Int), vs = [.ref x, .int r, .int m] ∧ H x = some (.ins C dx fs) ∧ fs.length < 900 ∧ 0 ≤ r ∧ r ≤ m - 1 ∧ 1 ≤ m ∧ m ≤ 6 ∧ Q .non (upd H x (.ins C dx (putF "modulus" (.int m) (putF "rest" (.int r) fs))))
def spSizedV (C : Addr) : Sp := fun vs H Q _ => ∃ (x dx : Addr) (fs : List (Str × V)) (z l : Int), vs = [.ref x, .int z, .int l] ∧ H x = some (.ins C dx fs) ∧ fs.length < 900 ∧ 1 ≤ z ∧ z ≤ 400 ∧ 0 ≤ l ∧ l ≤ 400 ∧ Q .non (upd H x (.ins C dx (putF "leave" (.int l) (putF "size" (.int z) fs))))
def spDownV (CD : Addr) : Sp := fun vs H Q _ => ∃ (x dx : Addr) (t r m : Int), vs = [.ref x, .int t, .int r, .int m] ∧ H x = some (.ins CD dx []) ∧ 0 ≤ t ∧ t ≤ 400 ∧ 0 ≤ r ∧ r ≤ m - 1 ∧ 1 ≤ m ∧ m ≤ 6 ∧ ∀ H', Mv x H H' → H' x = some (.ins CD dx (dfs t r m (rankI 1 t m r 0))) → Q .non H'
def spFixedV (CF : Addr) : Sp := fun vs H Q _ => ∃ (x dx : Addr) (z r m l : Int), vs = [.ref x, .int z, .int r, .int m, .int l] ∧ H x = some (.ins CF dx []) ∧ 1 ≤ z ∧ z ≤ 400 ∧ 0 ≤ r ∧ r ≤ m - 1 ∧ 1 ≤ m ∧ m ≤ 6 ∧ 0 ≤ l ∧ l ≤ 400 ∧ ∀ H', Mv x H H' → H' x = some (.ins CF dx (ffs z r m l (rankI 0 z m r l))) → Q .non H'
theorem ok_rested {CI f fN : Addr} {fd fdN : FuncData} (F : Fun K "__init__" "Rested.__init__" s_rested f fd) (U : Blt mg) (T : PrgR K mg CRl) (IC : InsC K CI) (N : Fun K "is_number" "is_number" s_is_number fN fdN) (gN : mg "is_number" = some (.ref fN)) (b_is_number : L2.Binds K fdN ["value", "least", "most"] []) : FnOk P w K mg base CX0 3 f fd ["self", "rest", "modulus"] (spRestedV CI) := by
  have G_is_number : FnOk P w K mg base CX0 1 fN fdN ["value", "least", "most"] (spNumX K) := ok_is_numberX N U
  refine F.ok sc_rested (fun vs H Q E h => ?_) (fun cdv A outer s H vs Q E hr h => ?_)
  · obtain ⟨x, dx, fs, r, m, rfl, _⟩ := h
    rfl
  · obtain ⟨x, dx, fs, r, m, rfl, hx, hfs, r0, r1, m0, m1, fin⟩ := h
    obtain ⟨u, mostM⟩ := T.mostM
    refine ⟨_, (pss_cons (ps_if (pt_not (pt_val (pe_call G_is_number (hr.mono (by decide)) rfl gN N.kp b_is_number .nil pass0 (by exact (pa_cons (pv 2) (pa_cons pe_int (pa_cons (ClX.pe_cval (pe_glob (v := .ref _) rfl T.g_Rule rfl)) pa_nil))))))) (pss_one ps_never) pss_nil)
  (pss_cons (ps_if (pt_not (pt_val (pe_call G_is_number (hr.mono (by decide)) rfl gN N.kp b_is_number .nil pass0 (by exact (pa_cons (pv 1) (pa_cons pe_int (pa_cons (pe_op op_sub (pv 2) pe_int) pa_nil))))))) (pss_one ps_never) pss_nil)
  (pss_cons (ps_fld (pv 0) (pv 1) rfl)
  (pss_one (ps_fld (pv 0) (pv 2) rfl))))), ?_⟩
    refine ⟨_, rfl, _, _, _, _, rfl, T.rdRl, mostM, .int m, 1, 6, rfl, it_int, _, rfl, ?_⟩
    rw [numV_of m0 m1]
    refine iteF ⟨_, rfl, _, rfl, _, _, rfl, rfl, .int r, 0, m - 1, rfl, it_int, _, rfl, ?_⟩
    rw [numV_of r0 r1]
    refine iteF ⟨_, rfl, _, rfl, x, CI, dx, fs, rfl, hx, IC.cl, IC.nRest, by omega, ?_⟩
    have hl := length_putF "rest" (.int r) fs
    refine ⟨_, rfl, _, rfl, x, CI, dx, _, rfl, upd_same, IC.cl, IC.nModulus, by omega, ?_⟩
    rw [upd_upd]
    exact fin
theorem sc_sized : FnScope ["self", "size", "leave"] ["self", "size", "leave"] (defScope s_sized) := ⟨rfl, rfl, rfl, by decide +kernel, rfl, by decide +kernel, by decide +kernel⟩
theorem ok_sized {CI f fN : Addr} {fd fdN : FuncData} (F : Fun K "__init__" "Sized.__init__" s_sized f fd) (U : Blt mg) (T : PrgR K mg CRl) (IC : InsC K CI) (N : Fun K "is_number" "is_number" s_is_number fN fdN) (gN : mg "is_number" = some (.ref fN)) (b_is_number : L2.Binds K fdN ["value", "least", "most"] []) : FnOk P w K mg base CX0 3 f fd ["self", "size", "leave"] (spSizedV CI) := by
  have G_is_number : FnOk P w K mg base CX0 1 fN fdN ["value", "least", "most"] (spNumX K) := ok_is_numberX N U
  refine F.ok sc_sized (fun vs H Q E h => ?_) (fun cdv A outer s H vs Q E hr h => ?_)
  · obtain ⟨x, dx, fs, r, m, rfl, _⟩ := h
    rfl
  · obtain ⟨x, dx, fs, z, l, rfl, hx, hfs, z0, z1, l0, l1, fin⟩ := h
    obtain ⟨u, most⟩ := T.most
    refine ⟨_, (pss_cons (ps_if (pt_not (pt_val (pe_call G_is_number (hr.mono (by decide)) rfl gN N.kp b_is_number .nil pass0 (by exact (pa_cons (pv 1) (pa_cons pe_int (pa_cons (ClX.pe_cval (pe_glob (v := .ref _) rfl T.g_Rule rfl)) pa_nil))))))) (pss_one ps_never) pss_nil)
  (pss_cons (ps_if (pt_not (pt_val (pe_call G_is_number (hr.mono (by decide)) rfl gN N.kp b_is_number .nil pass0 (by exact (pa_cons (pv 2) (pa_cons pe_int (pa_cons (ClX.pe_cval (pe_glob (v := .ref _) rfl T.g_Rule rfl)) pa_nil))))))) (pss_one ps_never) pss_nil)
  (pss_cons (ps_fld (pv 0) (pv 1) rfl)
  (pss_one (ps_fld (pv 0) (pv 2) rfl))))), ?_⟩
    refine ⟨_, rfl, _, _, _, _, rfl, T.rdRl, most, .int z, 1, 400, rfl, it_int, _, rfl, ?_⟩
    rw [numV_of z0 z1]
    refine iteF ⟨_, rfl, _, _, _, _, rfl, T.rdRl, most, .int l, 0, 400, rfl, it_int, _, rfl, ?_⟩
    rw [numV_of l0 l1]
    refine iteF ⟨_, rfl, _, rfl, x, CI, dx, fs, rfl, hx, IC.cl, IC.nSize, by omega, ?_⟩
    have hl := length_putF "size" (.int z) fs
    refine ⟨_, rfl, _, rfl, x, CI, dx, _, rfl, upd_same, IC.cl, IC.nLeave, by omega, ?_⟩
    rw [upd_upd]
    exact fin
abbrev FunDown (K : PySem.W.Frag) (f : Addr) (fd : FuncData) : Prop := FunD K "__init__" "Down.__init__" (defArgs s_down) (defBody s_down) (defScope s_down) [.int 0, .int 1] [] f fd
abbrev FunFixed (K : PySem.W.Frag) (f : Addr) (fd : FuncData) : Prop := FunD K "__init__" "Fixed.__init__" (defArgs s_fixed) (defBody s_fixed) (defScope s_fixed) [.int 0, .int 1, .int 0] [] f fd
theorem sc_down : FnScope ["self", "to", "rest", "modulus"] ["self", "to", "rest", "modulus"] (defScope s_down) := ⟨rfl, rfl, rfl, by decide +kernel, rfl, by decide +kernel, by decide +kernel⟩
theorem ok_down {CI CRs f fN fK fRs : Addr} {fd fdN fdRs fdK : FuncData} (F : FunDown K f fd) (U : Blt mg) (T : PrgR K mg CRl) (IC : InsC K CI) (N : Fun K "is_number" "is_number" s_is_number fN fdN) (gN : mg "is_number" = some (.ref fN)) (b_is_number : L2.Binds K fdN ["value", "least", "most"] [])
    (Rs : Fun K "__init__" "Rested.__init__" s_rested fRs fdRs) (b_rested : L2.Binds K fdRs ["self", "rest", "modulus"] []) (gRs : mg "Rested" = some (.ref CRs)) (BRs : BaseC K CRs fRs)
    (RK : Fun K "rank_of" "rank_of" s_rank_of fK fdK) (gK : mg "rank_of" = some (.ref fK)) (b_rank_of : L2.Binds K fdK ["kind", "number", "modulus", "rest", "leave"] []) : FnOk P w K mg base CX0 5 f fd ["self", "to", "rest", "modulus"] (spDownV CI) := by
  have G_is_number : FnOk P w K mg base CX0 1 fN fdN ["value", "least", "most"] (spNumX K) := ok_is_numberX N U
  have G_rank_of : FnOk P w K mg base CX0 1 fK fdK ["kind", "number", "modulus", "rest", "leave"] spRank := ok_rank_of RK T
  have G_rested : FnOk P w K mg base CX0 3 fRs fdRs ["self", "rest", "modulus"] (spRestedV CI) := ok_rested Rs U T IC N gN b_is_number
  refine F.ok (k := 4) sc_down (fun vs H Q E h => ?_) (fun cdv A outer s H vs Q E hr h => ?_)
  · obtain ⟨x, dx, t, r, m, rfl, _⟩ := h
    rfl
  · obtain ⟨x, dx, t, r, m, rfl, hx, t0, t1, r0, r1, m0, m1, fin⟩ := h
    obtain ⟨u, most⟩ := T.most
    refine ⟨_, (pss_cons (ps_if (pt_not (pt_val (pe_call G_is_number (hr.mono (by decide)) rfl gN N.kp b_is_number .nil pass0 (by exact (pa_cons (pv 1) (pa_cons pe_int (pa_cons (ClX.pe_cval (pe_glob (v := .ref _) rfl T.g_Rule rfl)) pa_nil))))))) (pss_one ps_never) pss_nil)
  (pss_cons (ps_expr (pe_clsFn (pe_glob (v := .ref _) rfl gRs rfl) BRs.rd BRs.fn G_rested (hr.mono (by decide)) Rs.kp b_rested .nil pass0 (by exact (pa_cons (pv 0) (pa_cons (pv 2) (pa_cons (pv 3) pa_nil))))))
  (pss_cons (ps_fld (pv 0) (pv 1) rfl)
  (pss_cons (ps_fld (pv 0) (pe_op op_add (pv 1) pe_int) rfl)
  (pss_one (ps_fld (pv 0) (pe_call G_rank_of (hr.mono (by decide)) rfl gK RK.kp b_rank_of .nil pass0 (by exact (pa_cons pe_int (pa_cons (pv 1) (pa_cons (pv 3) (pa_cons (pv 2) (pa_cons pe_int pa_nil))))))) rfl)))))), ?_⟩
    refine ⟨_, rfl, _, _, _, _, rfl, T.rdRl, most, .int t, 0, 400, rfl, it_int, _, rfl, ?_⟩
    rw [numV_of t0 t1]
    refine iteF ?_
    refine ⟨rfl, _, rfl, _, rfl, _, rfl, x, dx, [], r, m, rfl, hx, (by decide), r0, r1, m0, m1, ?_⟩
    refine ⟨_, rfl, _, rfl, x, CI, dx, _, rfl, upd_same, IC.cl, IC.nTo, (by show 2 < 1000; decide), ?_⟩
    refine ⟨_, rfl, _, _, rfl, rfl, _, rfl, x, CI, dx, _, rfl, upd_same, IC.cl, IC.nStart, (by show 3 < 1000; decide), ?_⟩
    refine ⟨_, rfl, _, rfl, _, rfl, 1, t, m, r, 0, rfl, by omega, by omega, t0, t1, by omega, by omega, r0, by omega, by omega, by omega, fun H2 s2 => ?_⟩
    refine ⟨_, rfl, x, CI, dx, _, rfl, s2 _ _ upd_same, IC.cl, IC.nRank, (by show 4 < 1000; decide), ?_⟩
    refine fin _ (fun b o nb q => ?_) upd_same
    rw [upd_ne nb]
    refine s2 b o ?_
    rw [upd_ne nb, upd_ne nb, upd_ne nb]
    exact q
theorem sc_fixed : FnScope ["self", "size", "rest", "modulus", "leave"] ["self", "size", "rest", "modulus", "leave"] (defScope s_fixed) := ⟨rfl, rfl, rfl, by decide +kernel, rfl, by decide +kernel, by decide +kernel⟩
theorem ok_fixed {CI CRs CSz f fN fK fRs fSz : Addr} {fd fdN fdRs fdK fdSz : FuncData} (F : FunFixed K f fd) (U : Blt mg) (T : PrgR K mg CRl) (IC : InsC K CI) (N : Fun K "is_number" "is_number" s_is_number fN fdN) (gN : mg "is_number" = some (.ref fN)) (b_is_number : L2.Binds K fdN ["value", "least", "most"] [])
    (Rs : Fun K "__init__" "Rested.__init__" s_rested fRs fdRs) (b_rested : L2.Binds K fdRs ["self", "rest", "modulus"] []) (gRs : mg "Rested" = some (.ref CRs)) (BRs : BaseC K CRs fRs)
    (RK : Fun K "rank_of" "rank_of" s_rank_of fK fdK) (gK : mg "rank_of" = some (.ref fK)) (b_rank_of : L2.Binds K fdK ["kind", "number", "modulus", "rest", "leave"] [])
    (Sz : Fun K "__init__" "Sized.__init__" s_sized fSz fdSz) (b_sized : L2.Binds K fdSz ["self", "size", "leave"] []) (gSz : mg "Sized" = some (.ref CSz)) (BSz : BaseC K CSz fSz) : FnOk P w K mg base CX0 5 f fd ["self", "size", "rest", "modulus", "leave"] (spFixedV CI) := by
  have G_rank_of : FnOk P w K mg base CX0 1 fK fdK ["kind", "number", "modulus", "rest", "leave"] spRank := ok_rank_of RK T
  have G_rested : FnOk P w K mg base CX0 3 fRs fdRs ["self", "rest", "modulus"] (spRestedV CI) := ok_rested Rs U T IC N gN b_is_number
  have G_sized : FnOk P w K mg base CX0 3 fSz fdSz ["self", "size", "leave"] (spSizedV CI) := ok_sized Sz U T IC N gN b_is_number
  refine F.ok (k := 4) sc_fixed (fun vs H Q E h => ?_) (fun cdv A outer s H vs Q E hr h => ?_)
  · obtain ⟨x, dx, t, r, m, l, rfl, _⟩ := h
    rfl
  · obtain ⟨x, dx, z, r, m, l, rfl, hx, z0, z1, r0, r1, m0, m1, l0, l1, fin⟩ := h
    refine ⟨_, (pss_cons (ps_expr (pe_clsFn (pe_glob (v := .ref _) rfl gSz rfl) BSz.rd BSz.fn G_sized (hr.mono (by decide)) Sz.kp b_sized .nil pass0 (by exact (pa_cons (pv 0) (pa_cons (pv 1) (pa_cons (pv 4) pa_nil))))))
  (pss_cons (ps_expr (pe_clsFn (pe_glob (v := .ref _) rfl gRs rfl) BRs.rd BRs.fn G_rested (hr.mono (by decide)) Rs.kp b_rested .nil pass0 (by exact (pa_cons (pv 0) (pa_cons (pv 2) (pa_cons (pv 3) pa_nil))))))
  (pss_cons (ps_fld (pv 0) (pe_op op_add (pv 1) (pv 4)) rfl)
  (pss_one (ps_fld (pv 0) (pe_call G_rank_of (hr.mono (by decide)) rfl gK RK.kp b_rank_of .nil pass0 (by exact (pa_cons pe_int (pa_cons (pv 1) (pa_cons (pv 3) (pa_cons (pv 2) (pa_cons (pv 4) pa_nil))))))) rfl))))), ?_⟩
    refine ⟨rfl, _, rfl, _, rfl, _, rfl, x, dx, [], z, l, rfl, hx, (by decide), z0, z1, l0, l1, ?_⟩
    refine ⟨rfl, _, rfl, _, rfl, _, rfl, x, dx, _, r, m, rfl, upd_same, (by show 2 < 900; decide), r0, r1, m0, m1, ?_⟩
    refine ⟨_, rfl, _, rfl, _, _, rfl, rfl, _, rfl, x, CI, dx, _, rfl, upd_same, IC.cl, IC.nStart, (by show 4 < 1000; decide), ?_⟩
    refine ⟨_, rfl, _, rfl, _, rfl, _, rfl, 0, z, m, r, l, rfl, by omega, by omega, by omega, by omega, by omega, by omega, r0, by omega, l0, l1, fun H2 s2 => ?_⟩
    refine ⟨_, rfl, x, CI, dx, _, rfl, s2 _ _ upd_same, IC.cl, IC.nRank, (by show 5 < 1000; decide), ?_⟩
    refine fin _ (fun b o nb q => ?_) upd_same
    rw [upd_ne nb]
    refine s2 b o ?_
    rw [upd_ne nb, upd_ne nb, upd_ne nb]
    exact q
end
end
/-! ### how Fixed's parts are bound -/
section
variable {K : PySem.W.Frag} {f : Addr} {fd : FuncData}
abbrev pFx : List Str := ["self", "size", "rest", "modulus", "leave"]
theorem bf_all (F : FunFixed K f fd) : L2.Binds K fd pFx [] := by
  obtain ⟨ds, r, b⟩ := F.binds1 (ps := pFx) 5 3 (by simp) rfl (fun T kV doc pm an cdv ct us its l1 l2 => by
    obtain ⟨a1, a2, a3, a4, a5, rfl⟩ := ex5 us l1
    obtain ⟨b1, b2, b3, rfl⟩ := ex3 its l2
    exact ⟨_, rfl, rfl⟩)
  cases r
  exact b
end
/-! ### how Down's parts are bound -/
section
variable {K : PySem.W.Frag} {f : Addr} {fd : FuncData}
theorem bd_all (F : FunDown K f fd) : L2.Binds K fd ["self", "to", "rest", "modulus"] [] := by
  obtain ⟨ds, r, b⟩ := F.binds1 (ps := ["self", "to", "rest", "modulus"]) 4 2 (by simp) rfl (fun T kV doc pm an cdv ct us its l1 l2 => by
    obtain ⟨a1, a2, a3, a4, rfl⟩ := ex4 us l1
    obtain ⟨b1, b2, rfl⟩ := ex2 its l2
    exact ⟨_, rfl, rfl⟩)
  cases r
  exact b
end

section
variable {P : Program} {w : World} {K : PySem.W.Frag} {mg : Str → Option Value} {base : Heap}

abbrev s_eqF : Stmt := inClass (topS 21) 1
theorem sc_eqF : FnScope ["self", "other"] ["self", "other"] (defScope s_eqF) := ⟨rfl, rfl, rfl, by decide +kernel, rfl, by decide +kernel, by decide +kernel⟩
theorem ok_eqF {C f : Addr} {fd : FuncData} (F : Fun K "__eq__" "Fixed.__eq__" s_eqF f fd) (U : Blt mg) (gC : mg "Fixed" = some (.ref C)) (IC : InsC K C) (ty : TyC K C) (self_ : PySem.W.kitOne K (.ref C) (.ref C) = some true) : FnOk P w K mg base CX0 1 f fd ["self", "other"] (spEqR K C) := by
  refine F.ok sc_eqF (fun vs H Q E h => ?_) (fun cdv A outer s H vs Q E hr h => ?_)
  · obtain ⟨a, dx, fs, k, y, rfl, _⟩ := h
    rfl
  · obtain ⟨a, dx, fs, k, y, rfl, ha, rk, how⟩ := h
    refine ⟨_, (pss_one (ps_ret (pe_and (pe_callB call_isi rfl U.z_isinstance (by decide +kernel) (pa_cons (pv 1) (pa_cons (pe_glob (v := .ref _) rfl gC rfl) pa_nil))) (pe_one (pe_cmpR op_eq (pe_fld (pv 0) rfl) (pe_fld (pv 1) rfl) (nomark _)))))), ?_⟩
    rcases how with ⟨b, dy, gs, j, rfl, hb, rj, fin⟩ | ⟨t, tyx, no, fin⟩
    · refine ⟨_, rfl, _, _, _, _, _, rfl, .own C, ty.ty IC.cl hb, self_, _, rfl, iteT ?_⟩
      exact ⟨_, rfl, a, C, dx, fs, _, rfl, ha, IC.cl, IC.nRank, rk, _, rfl, b, C, dy, gs, _, rfl, hb, IC.cl, IC.nRank, rj, rfl, by
        rw [show decide ((V.int k) = V.int j) = decide (k = j) from by by_cases z : k = j <;> simp [z]]
        exact fin⟩
    · exact ⟨_, rfl, _, _, _, _, _, rfl, .own C, tyx, no, _, rfl, iteF fin⟩
abbrev s_eqD : Stmt := inClass (topS 22) 1
theorem sc_eqD : FnScope ["self", "other"] ["self", "other"] (defScope s_eqD) := ⟨rfl, rfl, rfl, by decide +kernel, rfl, by decide +kernel, by decide +kernel⟩
theorem ok_eqD {C f : Addr} {fd : FuncData} (F : Fun K "__eq__" "Down.__eq__" s_eqD f fd) (U : Blt mg) (gC : mg "Down" = some (.ref C)) (IC : InsC K C) (ty : TyC K C) (self_ : PySem.W.kitOne K (.ref C) (.ref C) = some true) : FnOk P w K mg base CX0 1 f fd ["self", "other"] (spEqR K C) := by
  refine F.ok sc_eqD (fun vs H Q E h => ?_) (fun cdv A outer s H vs Q E hr h => ?_)
  · obtain ⟨a, dx, fs, k, y, rfl, _⟩ := h
    rfl
  · obtain ⟨a, dx, fs, k, y, rfl, ha, rk, how⟩ := h
    refine ⟨_, (pss_one (ps_ret (pe_and (pe_callB call_isi rfl U.z_isinstance (by decide +kernel) (pa_cons (pv 1) (pa_cons (pe_glob (v := .ref _) rfl gC rfl) pa_nil))) (pe_one (pe_cmpR op_eq (pe_fld (pv 0) rfl) (pe_fld (pv 1) rfl) (nomark _)))))), ?_⟩
    rcases how with ⟨b, dy, gs, j, rfl, hb, rj, fin⟩ | ⟨t, tyx, no, fin⟩
    · refine ⟨_, rfl, _, _, _, _, _, rfl, .own C, ty.ty IC.cl hb, self_, _, rfl, iteT ?_⟩
      exact ⟨_, rfl, a, C, dx, fs, _, rfl, ha, IC.cl, IC.nRank, rk, _, rfl, b, C, dy, gs, _, rfl, hb, IC.cl, IC.nRank, rj, rfl, by
        rw [show decide ((V.int k) = V.int j) = decide (k = j) from by by_cases z : k = j <;> simp [z]]
        exact fin⟩
    · exact ⟨_, rfl, _, _, _, _, _, rfl, .own C, tyx, no, _, rfl, iteF fin⟩
end
end Fz
set_option Elab.async false
set_option linter.all false
set_option maxRecDepth 100000
set_option maxHeartbeats 2000000
namespace Fz
open PySem PySem.Spec PyProof.Rows L2
section
variable {P : Program} {w : World} {K : PySem.W.Frag} {mg : Str → Option Value} {base : Heap}

abbrev s_parts : Stmt := topS 55
theorem sc_parts : FnScope ["_law_pen_here", "_law_most", "_law_many", "_law_rem", "_law_number"] ["_law_pen_here", "_law_most"] (defScope s_parts) := ⟨rfl, rfl, rfl, by decide +kernel, rfl, by decide +kernel, by decide +kernel⟩
theorem ok_parts {f fD fP : Addr} {fd fdD fdP : FuncData} (F : Fun K "_law_parts" "_law_parts" s_parts f fd) (U : Blt mg) (D : Fun K "_law_draw" "_law_draw" s_draw fD fdD) (gD : mg "_law_draw" = some (.ref fD)) (b_draw : L2.Binds K fdD ["_law_pen_here", "_law_many"] [])
    (Pk : Fun K "_law_pick" "_law_pick" s_pick fP fdP) (gP : mg "_law_pick" = some (.ref fP)) (b_pick : L2.Binds K fdP ["_law_pen_here", "_law_some"] []) : FnOk P w K mg base CX0 3 f fd ["_law_pen_here", "_law_most"] spParts := by
  have G_draw : FnOk P w K mg base CX0 1 fD fdD ["_law_pen_here", "_law_many"] spDraw := ok_draw D U
  have G_pick : FnOk P w K mg base CX0 2 fP fdP ["_law_pen_here", "_law_some"] (spPick K) := ok_pick Pk U D gD b_draw
  refine F.ok sc_parts (fun vs H Q E h => ?_) (fun cdv A outer s H vs Q E hr h => ?_)
  · obtain ⟨n, p, q, most, rfl, _⟩ := h
    rfl
  · obtain ⟨n, p, q, most, rfl, hp, hn, o0, o1, fin⟩ := h
    refine ⟨_, (C8.pss_cut (ps_set (i := 2) sc_parts.nd rfl (Or.inl rfl) (pe_call G_pick (hr.mono (by decide)) rfl gP Pk.kp b_pick .nil pass0 (by exact (pa_cons (pv 0) (pa_cons (pe_lst (pa_cons pe_int (pa_cons pe_int (pa_cons pe_int (pa_cons pe_int (pa_cons pe_int (pa_cons pe_int pa_nil))))))) pa_nil)))))
  (pss_cons (ps_par (i := 3) (j := 4) (by rfl) sc_parts.nd rfl rfl (by decide) rfl rfl (pa_cons (pe_call G_draw (hr.mono (by decide)) rfl gD D.kp b_draw .nil pass0 (by exact (pa_cons (pv 0) (pa_cons (pv 2) pa_nil)))) (pa_cons (pe_call G_draw (hr.mono (by decide)) rfl gD D.kp b_draw .nil pass0 (by exact (pa_cons (pv 0) (pa_cons (pv 1) pa_nil)))) pa_nil)) (by rfl))
  (pss_cons (ps_if (pt_cmpR op_eq (pe_call G_draw (hr.mono (by decide)) rfl gD D.kp b_draw .nil pass0 (by exact (pa_cons (pv 0) (pa_cons pe_int pa_nil)))) pe_int (nomark _)) (pss_one (ps_ret (pe_tup (pa_cons pe_str (pa_cons (pv 4) (pa_cons (pv 3) (pa_cons (pv 2) (pa_cons pe_int pa_nil)))))))) pss_nil)
  (pss_one (ps_ret (pe_tup (pa_cons pe_str (pa_cons (pe_op op_add pe_int (pv 4)) (pa_cons (pv 3) (pa_cons (pv 2) (pa_cons (pe_call G_pick (hr.mono (by decide)) rfl gP Pk.kp b_pick .nil pass0 (by exact (pa_cons (pv 0) (pa_cons (pe_lst (pa_cons pe_int (pa_cons pe_int (pa_cons pe_int (pa_cons pe_int (pa_cons pe_int (pa_cons (pe_call G_draw (hr.mono (by decide)) rfl gD D.kp b_draw .nil pass0 (by exact (pa_cons (pv 0) (pa_cons (pv 1) pa_nil)))) pa_nil))))))) pa_nil)))) pa_nil))))))))))), ?_⟩
    refine ⟨fun σ' H' => ∃ many : Int, σ' = [some (.ref p), some (.int most), some (.int many), none, none] ∧ 1 ≤ many ∧ many ≤ 6 ∧ PenAt (n + 1) H' p q ∧ Mv p H H', ?_, ?_⟩
    · refine ⟨_, rfl, by show 6 ≤ sizeLine; decide, fun l0 hl0 => ?_⟩
      refine ⟨n, p, q, l0, _, rfl, hp.new hl0, by omega, (hp.fresh hl0).1, upd_same, by show 0 < 6; decide, by show 6 ≤ 1000; decide, fun H1 x p1 m1 hx => ?_⟩
      have mv := (Mv.new hl0).trans m1
      simp only [List.mem_cons, List.not_mem_nil, or_false] at hx
      rcases hx with rfl | rfl | rfl | rfl | rfl | rfl <;> exact ⟨_, rfl, by decide, by decide, p1, mv⟩
    rintro σ' H1 ⟨many, rfl, a0, a1, p1, m1⟩
    refine ⟨_, rfl, _, rfl, n + 1, p, q, many, rfl, p1, by omega, by omega, small_log (by omega) (by omega), fun H2 r p2 m2 r0 r1 => ?_⟩
    refine ⟨_, rfl, _, rfl, n + 2, p, q, most, rfl, p2, by omega, by omega, small_log (by omega) (by omega), fun H3 x p3 m3 x0 x1 => ?_⟩
    refine ⟨_, _, rfl, ?_⟩
    refine ⟨_, rfl, n + 3, p, q, 3, rfl, p3, by omega, by decide, small_log (by decide) (by decide), fun H4 c p4 m4 c0 c1 => ?_⟩
    have mv4 := ((m1.trans m2).trans m3).trans m4
    refine ⟨rfl, _, rfl, ?_⟩
    refine ite2 (fun _ => ?_) (fun _ => ?_)
    · refine ⟨_, rfl, _, rfl, _, rfl, by show 5 ≤ sizeLine; decide, fun tp htp => ?_⟩
      have un : H tp = none := by
        cases e : H tp with
        | none => rfl
        | some o => rw [mv4 tp o (p4.fresh htp).1 e] at htp; cases htp
      exact fin _ tp (.down x r many) ((p4.new htp).more (by omega)) (mv4.trans (Mv.new htp)) un upd_same ⟨x0, by show x ≤ 400; omega, r0, by show r ≤ many - 1; omega, a0, a1, Int.le_refl _, by show (0 : Int) ≤ 400; decide⟩ (fun z => nomatch z) (fun _ => x1)
    · refine ⟨_, rfl, _, _, rfl, rfl, _, rfl, _, rfl, _, rfl, ?_⟩
      refine ⟨_, rfl, _, rfl, n + 4, p, q, most, rfl, p4, by omega, by omega, small_log (by omega) (by omega), fun H5 v p5 m5 v0 v1 => ?_⟩
      refine ⟨by show 6 ≤ sizeLine; decide, fun l0 hl0 => ?_⟩
      refine ⟨n + 5, p, q, l0, _, rfl, p5.new hl0, by omega, (p5.fresh hl0).1, upd_same, by show 0 < 6; decide, by show 6 ≤ 1000; decide, fun H6 y p6 m6 hy => ?_⟩
      have mv6 := ((mv4.trans m5).trans (Mv.new hl0)).trans m6
      obtain ⟨yi, rfl, y0, y1⟩ : ∃ yi, y = .int yi ∧ 0 ≤ yi ∧ yi ≤ (if most ≤ 2 then 2 else most - 1) := by
        simp only [List.mem_cons, List.not_mem_nil, or_false] at hy
        rcases hy with rfl | rfl | rfl | rfl | rfl | rfl
        · exact ⟨_, rfl, by decide, by split <;> omega⟩
        · exact ⟨_, rfl, by decide, by split <;> omega⟩
        · exact ⟨_, rfl, by decide, by split <;> omega⟩
        · exact ⟨_, rfl, by decide, by split <;> omega⟩
        · exact ⟨_, rfl, by decide, by split <;> omega⟩
        · exact ⟨_, rfl, v0, by split <;> omega⟩
      refine ⟨by show 5 ≤ sizeLine; decide, fun tp htp => ?_⟩
      have un : H tp = none := by
        cases e : H tp with
        | none => rfl
        | some o => rw [mv6 tp o (p6.fresh htp).1 e] at htp; cases htp
      have y2 : yi ≤ 400 := Int.le_trans y1 (by split <;> omega)
      exact fin _ tp (.fixed (1 + x) r many yi) ((p6.new htp).more (by omega)) (mv6.trans (Mv.new htp)) un upd_same ⟨by show 1 ≤ 1 + x; omega, by show 1 + x ≤ 400; omega, r0, by show r ≤ many - 1; omega, a0, a1, y0, y2⟩ (fun _ => ⟨by show 1 + x ≤ most; omega, y1⟩) (fun z => nomatch z)
end
section
variable {P : Program} {w : World} {K : PySem.W.Frag} {mg : Str → Option Value} {base : Heap}

abbrev s_rule : Stmt := topS 56
theorem sc_rule : FnScope ["_law_parts_here"] ["_law_parts_here"] (defScope s_rule) := ⟨rfl, rfl, rfl, by decide +kernel, rfl, by decide +kernel, by decide +kernel⟩
theorem ok_rule {f fDn fFx CF CD : Addr} {fd fdDn fdFx : FuncData} (F : Fun K "_law_rule" "_law_rule" s_rule f fd) (Dn : FunDown K fDn fdDn) (G_down : FnOk P w K mg base CX0 5 fDn fdDn ["self", "to", "rest", "modulus"] (spDownV CD)) (MkD : Mk K CD fDn) (gDn : mg "Down" = some (.ref CD))
    (Fx : FunFixed K fFx fdFx) (G_fixed : FnOk P w K mg base CX0 5 fFx fdFx pFx (spFixedV CF)) (MkF : Mk K CF fFx) (gFx : mg "Fixed" = some (.ref CF)) : FnOk P w K mg base CX0 7 f fd ["_law_parts_here"] (spRule CF CD) := by
  have b_dall := bd_all Dn
  have b_fall := bf_all Fx
  refine F.ok sc_rule (fun vs H Q E h => ?_) (fun cdv A outer s H vs Q E hr h => ?_)
  · obtain ⟨tp, d, rfl, _⟩ := h
    rfl
  · obtain ⟨tp, d, rfl, ht, wf, fin⟩ := h
    refine ⟨_, (pss_cons (ps_if (pt_cmpR op_eq (pe_ix ix_tup (pv 0) pe_int (fun _ _ => rfl)) pe_str (nomark _)) (pss_one (ps_ret (pe_box (pe_make MkD G_down (hr.mono (by decide)) rfl gDn b_dall .nil pass0 (by exact (pa_cons (pe_ix ix_tup (pv 0) pe_int (fun _ _ => rfl)) (pa_cons (pe_ix ix_tup (pv 0) pe_int (fun _ _ => rfl)) (pa_cons (pe_ix ix_tup (pv 0) pe_int (fun _ _ => rfl)) pa_nil)))))))) pss_nil)
  (pss_one (ps_ret (pe_box (pe_make MkF G_fixed (hr.mono (by decide)) rfl gFx b_fall .nil pass0 (by exact (pa_cons (pe_ix ix_tup (pv 0) pe_int (fun _ _ => rfl)) (pa_cons (pe_ix ix_tup (pv 0) pe_int (fun _ _ => rfl)) (pa_cons (pe_ix ix_tup (pv 0) pe_int (fun _ _ => rfl)) (pa_cons (pe_ix ix_tup (pv 0) pe_int (fun _ _ => rfl)) pa_nil)))))))))), ?_⟩
    cases d with
    | down t r m =>
      refine ⟨_, rfl, tp, _, _, _, rfl, rfl, SqT.of ht, rfl, rfl, _, rfl, ?_⟩
      rw [show decide (V.str (RD.down t r m).kind = V.str "down") = true from isDown_down]
      refine iteT ⟨_, rfl, tp, _, _, _, rfl, rfl, SqT.of ht, rfl, _, rfl, tp, _, _, _, rfl, rfl, SqT.of ht, rfl, _, rfl, tp, _, _, _, rfl, rfl, SqT.of ht, rfl, fun x dx hx hdx ne => ?_⟩
      have n0 := wf.n0; have n1 := wf.n1; have r0 := wf.r0; have r1 := wf.r1; have m0 := wf.m0; have m1 := wf.m1
      exact ⟨x, dx, t, r, m, rfl, upd_same, n0, n1, r0, r1, m0, m1, fun H' mv at_ => ⟨rfl, fin H' x (made_same hx hdx mv) hx ⟨dx, at_⟩⟩⟩
    | fixed z r m l =>
      refine ⟨_, rfl, tp, _, _, _, rfl, rfl, SqT.of ht, rfl, rfl, _, rfl, ?_⟩
      rw [show decide (V.str (RD.fixed z r m l).kind = V.str "down") = false from isDown_fixed]
      refine iteF ⟨_, rfl, tp, _, _, _, rfl, rfl, SqT.of ht, rfl, _, rfl, tp, _, _, _, rfl, rfl, SqT.of ht, rfl, _, rfl, tp, _, _, _, rfl, rfl, SqT.of ht, rfl, _, rfl, tp, _, _, _, rfl, rfl, SqT.of ht, rfl, fun x dx hx hdx ne => ?_⟩
      have n0 := wf.n0; have n1 := wf.n1; have r0 := wf.r0; have r1 := wf.r1; have m0 := wf.m0; have m1 := wf.m1; have l0 := wf.l0; have l1 := wf.l1
      exact ⟨x, dx, z, r, m, l, rfl, upd_same, n0, n1, r0, r1, m0, m1, l0, l1, fun H' mv at_ => ⟨rfl, fin H' x (made_same hx hdx mv) hx ⟨dx, at_⟩⟩⟩
end
section
variable {P : Program} {w : World} {K : PySem.W.Frag} {mg : Str → Option Value} {base : Heap}

abbrev s_st : Stmt := topS 23
theorem sc_st : FnScope ["rule", "heap"] ["rule", "heap"] (defScope s_st) := ⟨rfl, rfl, rfl, by decide +kernel, rfl, by decide +kernel, by decide +kernel⟩
theorem ok_st {CF CD f : Addr} {fd : FuncData} (F : Fun K "stands" "stands" s_st f fd) (PQ : PrgQ K CF CD) : FnOk P w K mg base CX0 1 f fd ["rule", "heap"] (spStands CF CD) := by
  refine F.ok sc_st (fun vs H Q E h => ?_) (fun cdv A outer s H vs Q E hr h => ?_)
  · obtain ⟨x, d, n, rfl, _⟩ := h
    rfl
  · obtain ⟨x, d, n, rfl, ⟨dx, hx⟩, wf, fin⟩ := h
    refine ⟨_, (pss_one (ps_ret (pe_and (pe_cmpR op_ge (pv 1) (pe_fld (pv 0) rfl) (nomark _)) (pe_one (pe_cmpR op_eq (pe_op op_mod (pv 1) (pe_fld (pv 0) rfl)) (pe_fld (pv 0) rfl) (nomark _)))))), ?_⟩
    have m0 := wf.m0
    have ic : InsC K (d.cls CF CD) := by
      cases d
      · exact PQ.icF
      · exact PQ.icD
    refine ⟨_, rfl, _, rfl, x, _, dx, _, _, rfl, hx, ic.cl, ic.nStart, fs_start d, _, _, rfl, rfl, _, rfl, ?_⟩
    refine ite2 (fun z => ?_) (fun z => ?_)
    · refine ⟨_, rfl, _, rfl, x, _, dx, _, _, rfl, hx, ic.cl, ic.nModulus, fs_modulus d, _, _, rfl, rfl, by omega, _, rfl, x, _, dx, _, _, rfl, hx, ic.cl, ic.nRest, fs_rest d, rfl, ?_⟩
      have e : standsB d n = decide (V.int (n % d.mod) = V.int d.rest) := by
        unfold standsB
        rw [z, Bool.true_and]
        by_cases h : n % d.mod = d.rest <;> simp [h]
      rw [e] at fin
      exact fin
    · have e : standsB d n = false := by
        unfold standsB
        rw [Bool.eq_false_iff.mpr z, Bool.false_and]
      rw [e] at fin
      exact fin
abbrev s_lf : Stmt := inClass (topS 21) 6
theorem sc_lf : FnScope ["self", "heap"] ["self", "heap"] (defScope s_lf) := ⟨rfl, rfl, rfl, by decide +kernel, rfl, by decide +kernel, by decide +kernel⟩
theorem ok_lf {CF CD f : Addr} {fd : FuncData} (F : Fun K "left_from" "Fixed.left_from" s_lf f fd) (PQ : PrgQ K CF CD) : FnOk P w K mg base CX0 1 f fd ["self", "heap"] (spLeftFrom CF CD) := by
  refine F.ok sc_lf (fun vs H Q E h => ?_) (fun cdv A outer s H vs Q E hr h => ?_)
  · obtain ⟨x, z, r, m, l, n, rfl, _⟩ := h
    rfl
  · obtain ⟨x, z, r, m, l, n, rfl, ⟨dx, hx⟩, fin⟩ := h
    exact ⟨_, (pss_one (ps_ret (pe_op op_sub (pv 1) (pe_fld (pv 0) rfl)))), _, rfl, _, rfl, x, _, dx, _, .int z, rfl, hx, PQ.icF.cl, PQ.icF.nSize, rfl, _, _, rfl, rfl, fin⟩
abbrev s_ld : Stmt := inClass (topS 22) 6
theorem sc_ld : FnScope ["self", "heap"] ["self", "heap"] (defScope s_ld) := ⟨rfl, rfl, rfl, by decide +kernel, rfl, by decide +kernel, by decide +kernel⟩
def spLeftD (CF CD : Addr) : Sp := fun vs H Q _ => ∃ (x : Addr) (t r m n : Int), vs = [.ref x, .int n] ∧ RuleAt CF CD H x (.down t r m) ∧ Q (.int t) H
theorem ok_ld {CF CD f : Addr} {fd : FuncData} (F : Fun K "left_from" "Down.left_from" s_ld f fd) (PQ : PrgQ K CF CD) : FnOk P w K mg base CX0 1 f fd ["self", "heap"] (spLeftD CF CD) := by
  refine F.ok sc_ld (fun vs H Q E h => ?_) (fun cdv A outer s H vs Q E hr h => ?_)
  · obtain ⟨x, t, r, m, n, rfl, _⟩ := h
    rfl
  · obtain ⟨x, t, r, m, n, rfl, ⟨dx, hx⟩, fin⟩ := h
    exact ⟨_, (pss_one (ps_ret (pe_fld (pv 0) rfl))), _, rfl, x, _, dx, _, .int t, rfl, hx, PQ.icD.cl, PQ.icD.nTo, rfl, fin⟩
end
section
variable {P : Program} {w : World} {K : PySem.W.Frag} {mg : Str → Option Value} {base : Heap}

abbrev s_left : Stmt := topS 57
theorem sc_left : FnScope ["_law_parts_here", "_law_spot"] ["_law_parts_here", "_law_spot"] (defScope s_left) := ⟨rfl, rfl, rfl, by decide +kernel, rfl, by decide +kernel, by decide +kernel⟩
def leftV (d : RD) (n : Int) : V := if standsB d n = true then .int (leftI d n) else .non
def spLeft : Sp := fun vs H Q _ => ∃ (tp : Addr) (d : RD) (n : Int), vs = [.ref tp, .int n] ∧ H tp = some (.tup d.tup) ∧ d.Wf ∧ Q (leftV d n) H
theorem ok_left {f : Addr} {fd : FuncData} (F : Fun K "_law_left" "_law_left" s_left f fd) (U : Blt mg) : FnOk P w K mg base CX0 1 f fd ["_law_parts_here", "_law_spot"] spLeft := by
  refine F.ok sc_left (fun vs H Q E h => ?_) (fun cdv A outer s H vs Q E hr h => ?_)
  · obtain ⟨tp, d, n, rfl, _⟩ := h
    rfl
  · obtain ⟨tp, d, n, rfl, ht, wf, fin⟩ := h
    refine ⟨_, (pss_cons (ps_if (pt_cmpR op_ne (pe_op op_mod (pe_callTy call_int1 rfl U.z_int (by decide +kernel) (pa_cons (pv 1) pa_nil)) (pe_ix ix_tup (pv 0) pe_int (fun _ _ => rfl))) (pe_ix ix_tup (pv 0) pe_int (fun _ _ => rfl)) (nomark _)) (pss_one (ps_ret pe_non)) pss_nil)
  (pss_cons (ps_if (pt_cmpR op_eq (pe_ix ix_tup (pv 0) pe_int (fun _ _ => rfl)) pe_str (nomark _)) (pss_one (ps_ret (pe_ifExp (pt_cmpR op_gt (pv 1) (pe_ix ix_tup (pv 0) pe_int (fun _ _ => rfl)) (nomark _)) (pe_ix ix_tup (pv 0) pe_int (fun _ _ => rfl)) pe_non))) pss_nil)
  (pss_one (ps_ret (pe_ifExp (pt_cmpR op_ge (pv 1) (pe_op op_add (pe_ix ix_tup (pv 0) pe_int (fun _ _ => rfl)) (pe_ix ix_tup (pv 0) pe_int (fun _ _ => rfl))) (nomark _)) (pe_op op_sub (pv 1) (pe_ix ix_tup (pv 0) pe_int (fun _ _ => rfl))) pe_non))))), ?_⟩
    have m0 := wf.m0
    have hn0 := wf.n0
    have hn1 := wf.n1
    have hl0 := wf.l0
    refine ⟨_, rfl, .inl ⟨_, rfl, _, rfl, tp, _, _, _, rfl, rfl, SqT.of ht, rfl, _, _, rfl, rfl, by omega, _, rfl, tp, _, _, _, rfl, rfl, SqT.of ht, rfl, rfl, _, rfl, ?_⟩⟩
    refine ite2 (fun nz => ?_) (fun nz => ?_)
    · have e : ¬ n % d.mod = d.rest := fun y => by
        have z2 : (!decide (V.int (n % d.mod) = V.int d.rest)) = true := nz
        rw [y, decide_eq_true rfl] at z2
        cases z2
      have q : leftV d n = .non := by
        unfold leftV standsB
        rw [decide_eq_false e, Bool.and_false]
        rfl
      rw [q] at fin
      exact fin
    · have e : n % d.mod = d.rest := Classical.byContradiction fun y => nz (by
        show (!decide (V.int (n % d.mod) = V.int d.rest)) = true
        rw [decide_eq_false fun h => y (V.int.inj h)]
        rfl)
      have sb : standsB d n = decide (d.start ≤ n) := by
        unfold standsB
        rw [decide_eq_true e, Bool.and_true]
      unfold leftV at fin
      rw [sb] at fin
      cases d with
      | down t r m =>
        refine ⟨_, rfl, tp, _, _, _, rfl, rfl, SqT.of ht, rfl, rfl, _, rfl, ?_⟩
        rw [show decide (V.str (RD.down t r m).kind = V.str "down") = true from isDown_down]
        refine iteT ⟨_, rfl, _, rfl, tp, _, _, _, rfl, rfl, SqT.of ht, rfl, _, _, rfl, rfl, _, rfl, ite2 (fun h => ?_) (fun h => ?_)⟩
        · have h2 : t < n := of_decide_eq_true h
          rw [if_pos (show decide ((RD.down t r m).start ≤ n) = true from decide_eq_true (show t + 1 ≤ n by omega))] at fin
          exact ⟨_, rfl, tp, _, _, _, rfl, rfl, SqT.of ht, rfl, fin⟩
        · have h2 : ¬ t < n := fun y => h (decide_eq_true y)
          rw [if_neg (show ¬ decide ((RD.down t r m).start ≤ n) = true from fun y => h2 (by have y2 : t + 1 ≤ n := of_decide_eq_true y; omega))] at fin
          exact fin
      | fixed z r m l =>
        refine ⟨_, rfl, tp, _, _, _, rfl, rfl, SqT.of ht, rfl, rfl, _, rfl, ?_⟩
        rw [show decide (V.str (RD.fixed z r m l).kind = V.str "down") = false from isDown_fixed]
        refine iteF ⟨_, rfl, _, rfl, tp, _, _, _, rfl, rfl, SqT.of ht, rfl, _, rfl, tp, _, _, _, rfl, rfl, SqT.of ht, rfl, _, _, rfl, rfl, _, _, rfl, rfl, _, rfl, ite2 (fun h => ?_) (fun h => ?_)⟩
        · rw [if_pos (show decide ((RD.fixed z r m l).start ≤ n) = true from h)] at fin
          exact ⟨_, rfl, _, rfl, tp, _, _, _, rfl, rfl, SqT.of ht, rfl, _, _, rfl, rfl, fin⟩
        · rw [if_neg (show ¬ decide ((RD.fixed z r m l).start ≤ n) = true from h)] at fin
          exact fin
end
end Fz
set_option Elab.async false
set_option linter.all false
set_option maxRecDepth 100000
set_option maxHeartbeats 2000000
namespace Fz
open PySem PySem.Spec PyProof.Rows L2
section
variable {P : Program} {w : World} {K : PySem.W.Frag} {mg : Str → Option Value} {base : Heap}

abbrev s_cr : Stmt := topS 42
theorem sc_cr : FnScope ["begin", "period", "told", "part"] ["begin", "period", "told", "part"] (defScope s_cr) := ⟨rfl, rfl, rfl, by decide +kernel, rfl, by decide +kernel, by decide +kernel⟩
/-- check_row of a row that is one -/
def spCheckV : Sp := fun vs H Q _ => ∃ (l : Addr) (ns : List Int) (b p : Nat) (z : Str), vs = [.int (b : Nat), .int (p : Nat), .ref l, .str z] ∧ H l = some (.lst (ns.map V.int)) ∧ Told ns b p ∧ b ≤ 1000 ∧ p ≤ 1000 ∧ ∀ H', Same H H' → Q .non H'
theorem ok_cr {f fN : Addr} {fd fdN : FuncData} (F : Fun K "check_row" "check_row" s_cr f fd) (U : Blt mg) (N : Fun K "is_number" "is_number" s_is_number fN fdN) (gN : mg "is_number" = some (.ref fN)) (b_num : L2.Binds K fdN ["value", "least", "most"] []) {tMO : Tok} (gMO : mg "MOST" = some (.int 1000 tMO)) : FnOk P w K mg base CX0 3 f fd ["begin", "period", "told", "part"] spCheckV := by
  have G_num : FnOk P w K mg base CX0 1 fN fdN ["value", "least", "most"] (spNumX K) := ok_is_numberX N U
  refine F.ok sc_cr (fun vs H Q E h => ?_) (fun cdv A outer s H vs Q E hr h => ?_)
  · obtain ⟨l, ns, b, p, z, rfl, _⟩ := h
    rfl
  · obtain ⟨l, ns, b, p, z, rfl, hl, told, b1, p1, fin⟩ := h
    refine ⟨_, (pss_cons (ps_if (pt_not (pt_val (pe_call G_num (hr.mono (by decide)) rfl gN N.kp b_num .nil pass0 (by exact (pa_cons (pv 0) (pa_cons pe_int (pa_cons (pe_glob (v := .int 1000) rfl gMO ⟨tMO, rfl⟩) pa_nil))))))) (pss_one (ps_never)) pss_nil)
  (pss_cons (ps_if (pt_not (pt_val (pe_call G_num (hr.mono (by decide)) rfl gN N.kp b_num .nil pass0 (by exact (pa_cons (pv 1) (pa_cons pe_int (pa_cons (pe_glob (v := .int 1000) rfl gMO ⟨tMO, rfl⟩) pa_nil))))))) (pss_one (ps_never)) pss_nil)
  (pss_one (ps_if (PW.pt (pw_or (pt_not (pt_val (pe_callB call_isiT rfl U.z_isinstance (by decide +kernel) (pa_cons (pv 2) (pa_cons (pe_tup (pa_cons (pe_bltn (v := .ty "list") rfl U.z_list (by decide +kernel) rfl) (pa_cons (pe_bltn (v := .ty "tuple") rfl U.z_tuple (by decide +kernel) rfl) pa_nil))) pa_nil))))) (pw_or1 (pt_cmpR op_ne (pe_callB call_len rfl U.z_len (by decide +kernel) (pa_cons (pv 2) pa_nil)) (pe_op op_add (pv 0) (pv 1)) (nomark _))))) (pss_one (ps_never)) pss_nil)))), ?_⟩
    have sz : (10000 : Nat) ≤ sizeLine := by show 10000 ≤ 16777216; decide
    have n1 := told.n1
    refine ⟨_, rfl, .int b, 0, 1000, rfl, it_int, _, rfl, ?_⟩
    rw [numV_of (show (0 : Int) ≤ b by omega) (show (b : Int) ≤ 1000 by omega)]
    refine iteF ⟨_, rfl, .int p, 1, 1000, rfl, it_int, _, rfl, ?_⟩
    rw [numV_of (show (1 : Int) ≤ p by omega) (show (p : Int) ≤ 1000 by omega)]
    refine iteF ⟨_, rfl, by show 2 ≤ sizeLine; omega, fun t0 ht0 => ?_⟩
    have s0 := Same.new (o := .tup [V.ty "list", .ty "tuple"]) ht0
    have hl0 := s0 _ _ hl
    obtain ⟨ty, tyx, kit⟩ := seq_kit (K := K) (o := some (ns.map V.int)) ⟨l, rfl, .inl hl0⟩
    have lL : LenV K (.ref l) (upd H t0 (.tup [V.ty "list", .ty "tuple"])) ns.length := by
      have q := SeqAt2.len (K := K) (SqB.ii (t := false) (show SqB false (upd H t0 (.tup [V.ty "list", .ty "tuple"])) l (ns.map V.int) from hl0))
      rw [List.length_map] at q
      exact q
    refine ⟨.ref l, t0, _, ty, _, _, rfl, upd_same, .cons (.ty "list") (.cons (.ty "tuple") .nil), tyx, kit, _, rfl, iteF ?_⟩
    refine ⟨_, rfl, _, _, rfl, lL, _, rfl, _, rfl, _, _, rfl, rfl, rfl, _, rfl, ?_⟩
    have e : (!decide (V.int (ns.length : Nat) = V.int ((b : Int) + p))) = false := by
      rw [decide_eq_true (by rw [told.len]; rfl)]
      rfl
    rw [e]
    exact iteF (fin _ s0)

end
section
variable {P : Program} {w : World} {K : PySem.W.Frag} {mg : Str → Option Value} {base : Heap}

abbrev s_lp : Stmt := topS 44
theorem sc_lp : FnScope ["again", "many", "period"] ["again"] (defScope s_lp) := ⟨rfl, rfl, rfl, by decide +kernel, rfl, by decide +kernel, by decide +kernel⟩
theorem ok_lp {f : Addr} {fd : FuncData} (F : Fun K "least_period" "least_period" s_lp f fd) (U : Blt mg) : FnOk P w K mg base CX0 1 f fd ["again"] spLeastR := by
  refine F.ok sc_lp (fun vs H Q E h => ?_) (fun cdv A outer s H vs Q E hr h => ?_)
  · obtain ⟨l, t, ns, rfl, _⟩ := h
    rfl
  · obtain ⟨l, t, ns, rfl, hl, n1, n2, fin⟩ := h
    refine ⟨_, (pss_cons (ps_set (i := 1) sc_lp.nd rfl (Or.inl rfl) (pe_callB call_len rfl U.z_len (by decide +kernel) (pa_cons (pv 0) pa_nil)))
  (pss_cons (ps_for PassesOwn.never rfl (pi_range2 rfl U.z_range (by exact (pa_cons pe_int (pa_cons (pv 1) pa_nil)))) (pg_name (i := 2) sc_lp.nd rfl (Or.inl rfl)) (pss_one (ps_if (PW.pt (pw_and (pt_cmpR op_eq (pe_op op_mod (pv 1) (pv 2)) pe_int (nomark _)) (pw_and1 (pt_cmpR (op_eqD hr.units) (pe_slice sl_seq (pv 0) po_none (po_some (pe_op op_sub (pv 1) (pv 2)))) (pe_slice sl_seq (pv 0) (po_some (pv 2)) po_none) (nomark _))))) (pss_one (ps_ret (pv 2))) pss_nil)))
  (pss_one (ps_ret (pv 1))))), ?_⟩
    have sz : (10000 : Nat) ≤ sizeLine := by show 10000 ≤ 16777216; decide
    refine ⟨_, rfl, _, _, rfl, hl.ii.len, ?_⟩
    show ∃ _, _
    rw [List.length_map]
    refine ⟨_, rfl, 1, (ns.length : Int), rfl, ⟨by decide, by decide, by omega, by omega⟩, for_range (lo := 1) (n := ((ns.length : Int) - 1).toNat) (fun i σ' H' => ∃ v2 : Option V, σ' = [some (.ref l), some (.int (ns.length : Nat)), v2] ∧ Same H H' ∧ ∀ q, 1 ≤ q → q ≤ i → ¬ Rep ns q) ⟨_, rfl, fun _ _ z => z, fun s x y => by omega⟩ ?_ ?_⟩
    rotate_left
    · rintro σ' H' ⟨v2, rfl, s, no⟩
      exact ⟨_, rfl, fin _ ns.length s ⟨n1, Nat.le_refl _, rep_self n1, fun q a b => no q a (by omega)⟩⟩
    rintro i σ' H2 hi ⟨v2, rfl, s2, no⟩
    have si : ((1 : Int) + (i : Nat)) = ((1 + i : Nat) : Int) := by omega
    have i1 : 1 + i < ns.length := by omega
    have hl2 := hl.same s2
    rw [si]
    refine ⟨_, rfl, _, rfl, _, _, rfl, rfl, by omega, rfl, _, rfl, ?_⟩
    have em : ((ns.length : Nat) : Int) % ((1 + i : Nat) : Int) = ((ns.length % (1 + i) : Nat) : Int) := rfl
    refine ite2 (fun c => ?_) (fun c => ?_)
    · have c1 : ns.length % (1 + i) = 0 := by
        have q : V.int (((ns.length : Nat) : Int) % ((1 + i : Nat) : Int)) = V.int 0 := of_decide_eq_true c
        have q1 := V.int.inj q
        rw [em] at q1
        omega
      refine ⟨_, rfl, _, rfl, _, rfl, _, _, rfl, rfl, _, rfl, hl2.cut fun p1 H3 s3 h3 => ?_⟩
      have e1 : cutV (ns.map V.int) none (some ((ns.length : Int) - ((1 + i : Nat) : Int))) = (ns.take (ns.length - (1 + i))).map V.int := by
        have q := cutV_take (ns.map V.int) (ns.length - (1 + i))
        rw [show ((ns.length - (1 + i) : Nat) : Int) = (ns.length : Int) - ((1 + i : Nat) : Int) by omega] at q
        rw [q, List.map_take]
      rw [e1] at h3
      refine ⟨_, rfl, _, rfl, _, rfl, (hl2.same s3).cut fun p2 H4 s4 h4 => ?_⟩
      have e2 : cutV (ns.map V.int) (some ((1 + i : Nat) : Int)) none = (ns.drop (1 + i)).map V.int := by rw [cutV_drop, List.map_drop]
      rw [e2] at h4
      refine SqB.eq (h3.same s4) h4 ⟨_, rfl, ?_⟩
      have ni := near_iff (r := ns) (p := 1 + i) (by omega) (by omega)
      refine ite2 (fun d => ?_) (fun d => ?_)
      · have d1 : ns.take (ns.length - (1 + i)) = ns.drop (1 + i) := of_decide_eq_true d
        exact ⟨_, rfl, fin _ (1 + i) ((s2.trans s3).trans s4) ⟨by omega, by omega, ni.mpr ⟨c1, d1⟩, fun q a b => no q a (by omega)⟩⟩
      · refine ⟨_, rfl, (s2.trans s3).trans s4, fun q a b => ?_⟩
        by_cases z : q = 1 + i
        · rw [z]
          exact fun r => d (decide_eq_true (ni.mp r).2)
        · exact no q a (by omega)
    · refine iteF ⟨_, rfl, s2, fun q a b => ?_⟩
      by_cases z : q = 1 + i
      · rw [z]
        intro r
        have ni := (near_iff (r := ns) (p := 1 + i) (by omega) (by omega)).mp r
        exact c (decide_eq_true (by show V.int (((ns.length : Nat) : Int) % ((1 + i : Nat) : Int)) = V.int 0; rw [em, ni.1]; rfl))
      · exact no q a (by omega)
abbrev s_tf : Stmt := topS 43
theorem sc_tf : FnScope ["told", "begin", "period"] ["told", "begin"] (defScope s_tf) := ⟨rfl, rfl, rfl, by decide +kernel, rfl, by decide +kernel, by decide +kernel⟩
theorem ok_tf {f fLp : Addr} {fd fdLp : FuncData} (F : Fun K "least_form" "least_form" s_tf f fd) (U : Blt mg) (Lp : Fun K "least_period" "least_period" s_lp fLp fdLp) (gLp : mg "least_period" = some (.ref fLp)) (b_lp : L2.Binds K fdLp ["again"] []) : FnOk P w K mg base CX0 2 f fd ["told", "begin"] spLeastF := by
  have G_lp : FnOk P w K mg base CX0 1 fLp fdLp ["again"] spLeastR := ok_lp Lp U
  refine F.ok sc_tf (fun vs H Q E h => ?_) (fun cdv A outer s H vs Q E hr h => ?_)
  · obtain ⟨l, t, ns, bn, pn, rfl, _⟩ := h
    rfl
  · obtain ⟨l, t, ns, bn, pn, rfl, hl, told, few, fin⟩ := h
    refine ⟨_, (pss_cons (ps_set (i := 2) sc_tf.nd rfl (Or.inl rfl) (pe_call G_lp (hr.mono (by decide)) rfl gLp Lp.kp b_lp .nil pass0 (by exact (pa_cons (pe_slice sl_seq (pv 0) (po_some (pv 1)) po_none) pa_nil))))
  (C8.pss_cut (ps_while PassesOwn.never (pt_weak (PW.pt (pw_and (pt_cmpR op_gt (pv 1) pe_int (nomark _)) (pw_and1 (pt_cmpR op_eq (pe_ix ix_seq (pv 0) (pe_op op_sub (pv 1) pe_int) (fun _ _ => rfl)) (pe_ix ix_seq (pv 0) (pe_op op_add (pe_op op_sub (pv 1) pe_int) (pv 2)) (fun _ _ => rfl)) (nomark _)))))) (pss_one (ps_set (i := 1) sc_tf.nd rfl (Or.inl rfl) (pe_op op_sub (pv 1) pe_int))))
  (pss_one (ps_ret (pe_tup (pa_cons (pv 1) (pa_cons (pv 2) pa_nil))))))), ?_⟩
    have sz : (10000 : Nat) ≤ sizeLine := by show 10000 ≤ 16777216; decide
    have n1 := told.n1
    have dl : (ns.drop bn).length = pn := by rw [List.length_drop, told.len]; omega
    refine ⟨_, rfl, _, rfl, _, rfl, hl.cut fun l2 H2 s2 h2 => ?_⟩
    have ed : cutV (ns.map V.int) (some (bn : Int)) none = (ns.drop bn).map V.int := by rw [cutV_drop, List.map_drop]
    rw [ed] at h2
    refine ⟨l2, t, ns.drop bn, rfl, h2, by omega, by omega, fun H3 a s4 lr => ?_⟩
    have s13 := s2.trans s4
    have hl3 := hl.same s13
    have a2 := lr.p2
    rw [dl] at a2
    have a1 := lr.p1
    refine ⟨fun σ' H' => ∃ k : Nat, σ' = [some (.ref l), some (.int k), some (.int a)] ∧ Same H3 H' ∧ Back ns bn a k, ?_, ?_⟩
    · refine while_by (fun σ' H' => ∃ k : Nat, σ' = [some (.ref l), some (.int k), some (.int a)] ∧ Same H3 H' ∧ k ≤ bn ∧ ∀ i, k ≤ i → i < bn → ns.getD i 0 = ns.getD (i + a) 0) (fun σ' _ => match σ'[1]? with
        | some (some (V.int k)) => k.toNat
        | _ => 0) ⟨bn, rfl, fun _ _ z => z, Nat.le_refl _, fun i a b => by omega⟩ ?_ weakT_mono
      rintro σ' H' ⟨k, rfl, s, k1, same⟩
      refine weakT_of ?_
      have at2 := (hl3.same s).ii
      refine ⟨_, rfl, _, _, rfl, rfl, _, rfl, ?_⟩
      refine ite2 (fun c => ?_) (fun c => ?_)
      · have c1 : 0 < k := by have q : (0 : Int) < (k : Int) := of_decide_eq_true c; omega
        have g1 : ns[k - 1]? = some (ns.getD (k - 1) 0) := by
          rw [List.getD_eq_getElem?_getD, List.getElem?_eq_getElem (by rw [told.len]; omega)]
          rfl
        have g2 : ns[k - 1 + a]? = some (ns.getD (k - 1 + a) 0) := by
          rw [List.getD_eq_getElem?_getD, List.getElem?_eq_getElem (by rw [told.len]; omega)]
          rfl
        have h1 : atI (ns.map V.int) ((k : Int) - 1) = some (.int (ns.getD (k - 1) 0)) := by
          have q := at_nat' (xs := ns.map V.int) (i := k - 1) (v := .int (ns.getD (k - 1) 0)) (by rw [List.getElem?_map, g1]; rfl)
          rw [show ((k - 1 : Nat) : Int) = (k : Int) - 1 by omega] at q
          exact q
        have h2 : atI (ns.map V.int) ((k : Int) - 1 + a) = some (.int (ns.getD (k - 1 + a) 0)) := by
          have q := at_nat' (xs := ns.map V.int) (i := k - 1 + a) (v := .int (ns.getD (k - 1 + a) 0)) (by rw [List.getElem?_map, g2]; rfl)
          rw [show ((k - 1 + a : Nat) : Int) = (k : Int) - 1 + a by omega] at q
          exact q
        refine ⟨_, rfl, _, rfl, _, _, rfl, rfl, at2.ix h1 ⟨_, rfl, _, rfl, _, _, rfl, rfl, _, rfl, _, _, rfl, rfl, at2.ix h2 ⟨rfl, _, rfl, ?_⟩⟩⟩
        refine ite2 (fun d => ?_) (fun d => ?_)
        · have d1 : ns.getD (k - 1) 0 = ns.getD (k - 1 + a) 0 := V.int.inj (of_decide_eq_true d)
          refine ⟨_, rfl, _, _, rfl, rfl, ⟨k - 1, by rw [show ((k - 1 : Nat) : Int) = (k : Int) - 1 by omega]; rfl, s, by omega, fun i h1 h2 => ?_⟩, ?_⟩
          · by_cases e : i = k - 1
            · rw [e]; exact d1
            · exact same i (by omega) h2
          · show ((k : Int) - 1).toNat < (k : Int).toNat
            omega
        · exact ⟨k, rfl, s, k1, same, .inr fun y => d (decide_eq_true (by rw [y]))⟩
      · have c1 : k = 0 := by
          have q : ¬ (0 : Int) < (k : Int) := fun y => c (decide_eq_true y)
          omega
        exact iteF ⟨k, rfl, s, k1, same, .inl c1⟩
    rintro σ' H4 ⟨k, rfl, s5, back⟩
    have form := prog_form told lr back
    have le := back.le
    refine ⟨_, rfl, _, rfl, by show 2 ≤ sizeLine; omega, fun u hu => ?_⟩
    exact fin _ u k a ((s13.trans s5).trans (Same.new hu)) upd_same form (by omega)
end
section
variable {P : Program} {w : World} {K : PySem.W.Frag} {mg : Str → Option Value} {base : Heap}

abbrev s_ti : Stmt := inClass (topS 49) 1
theorem sc_ti : FnScope ["self", "begin", "period", "numbers", "number"] ["self", "begin", "period", "numbers"] (defScope s_ti) := ⟨rfl, rfl, rfl, by decide +kernel, rfl, by decide +kernel, by decide +kernel⟩
/-- Table.__init__ of a row that is one -/
def spTableV (CT : Addr) : Sp := fun vs H Q _ => ∃ (x dx l : Addr) (b p : Nat) (ns : List Int), vs = [.ref x, .int (b : Nat), .int (p : Nat), .ref l] ∧ H x = some (.ins CT dx []) ∧ H l = some (.lst (ns.map V.int)) ∧ Told ns b p ∧ ns[0]? = some 0 ∧ b ≤ 1000 ∧ p ≤ 1000 ∧
  ∀ H' b' p', Form (atW ns b p) b' p' → b' + p' ≤ b + p → Mv x H H' → (∃ t, H' x = some (.ins CT dx (tfs b' p' t)) ∧ H' t = some (.tup ((nums (atW ns b p) (b' + p')).map V.int))) → Q .non H'
theorem all_true (n : Nat) : (List.replicate n true).all id = true := by
  rw [List.all_eq_true]
  intro x hx
  rw [List.eq_of_mem_replicate hx]
  rfl
theorem ok_ti {CT f fN fCr fLp fLf : Addr} {fd fdN fdCr fdLp fdLf : FuncData} (F : Fun K "__init__" "Table.__init__" s_ti f fd) (U : Blt mg) (TC : TabC K CT) (N : Fun K "is_number" "is_number" s_is_number fN fdN) (gN : mg "is_number" = some (.ref fN)) (b_num : L2.Binds K fdN ["value", "least", "most"] [])
    {tMO : Tok} (gMO : mg "MOST" = some (.int 1000 tMO)) {tMW : Tok} (gMW : mg "MOST_WORTH" = some (.int 400 tMW))
    (Cr : Fun K "check_row" "check_row" s_cr fCr fdCr) (gCr : mg "check_row" = some (.ref fCr)) (b_cr : L2.Binds K fdCr ["begin", "period", "told", "part"] [])
    (Lp : Fun K "least_period" "least_period" s_lp fLp fdLp) (gLp : mg "least_period" = some (.ref fLp)) (b_lp : L2.Binds K fdLp ["again"] [])
    (Lf : Fun K "least_form" "least_form" s_tf fLf fdLf) (gLf : mg "least_form" = some (.ref fLf)) (b_lf : L2.Binds K fdLf ["told", "begin"] []) : FnOk P w K mg base CX0 5 f fd ["self", "begin", "period", "numbers"] (spTableV CT) := by
  have G_num : FnOk P w K mg base CX0 1 fN fdN ["value", "least", "most"] (spNumX K) := ok_is_numberX N U
  have G_cr : FnOk P w K mg base CX0 3 fCr fdCr ["begin", "period", "told", "part"] spCheckV := ok_cr Cr U N gN b_num gMO
  have G_lf : FnOk P w K mg base CX0 2 fLf fdLf ["told", "begin"] spLeastF := ok_tf Lf U Lp gLp b_lp
  refine F.ok sc_ti (fun vs H Q E h => ?_) (fun cdv A outer s H vs Q E hr h => ?_)
  · obtain ⟨x, dx, l, b, p, ns, rfl, _⟩ := h
    rfl
  · obtain ⟨x, dx, l, b, p, ns, rfl, hx, hl, told, z0, b1, p1, fin⟩ := h
    refine ⟨_, (pss_cons (ps_expr (pe_call G_cr (hr.mono (by decide)) rfl gCr Cr.kp b_cr .nil pass0 (by exact (pa_cons (pv 1) (pa_cons (pv 2) (pa_cons (pv 3) (pa_cons pe_str pa_nil)))))))
  (C8.pss_cut (ps_if (PW.pt (pw_or (pt_not (pt_val (pe_callB (cr_all rfl) rfl U.z_all (by decide +kernel) (pa_cons (pe_lc (own := [("number", 4)]) rfl sc_ti.nd (pi_seq (pv 3)) (blkOk_by (by kernel_rfl)) (fun s_ H_ C_ cl_ fp_ => (pg_name (i := 4) sc_ti.nd rfl (Or.inl rfl))) (fun s_ H_ C_ cl_ fp_ => pts_nil) (fun s_ H_ C_ cl_ fp_ => (pe_call G_num (hr.mono (by decide)) rfl gN N.kp b_num .nil pass0 (by exact (pa_cons (pv 4) (pa_cons pe_int (pa_cons (pe_glob (v := .int 400) rfl gMW ⟨tMW, rfl⟩) pa_nil))))))) pa_nil)))) (pw_or1 (pt_cmpR op_ne (pe_ix ix_list (pv 3) pe_int (fun _ _ => rfl)) pe_int (nomark _))))) (pss_one (ps_never)) pss_nil)
  (pss_cons (ps_asg (pe_call G_lf (hr.mono (by decide)) rfl gLf Lf.kp b_lf .nil pass0 (by exact (pa_cons (pv 3) (pa_cons (pv 1) pa_nil)))) (pg_tup rfl (pgs_cons (pg_fld (pv 0)) (pgs_cons (pg_fld (pv 0)) pgs_nil))))
  (pss_one (ps_fld (pv 0) (pe_callTy call_tuple_of rfl U.z_tuple (by decide +kernel) (pa_cons (pe_slice sl_seq (pv 3) po_none (po_some (pe_op op_add (pe_fld (pv 0) rfl) (pe_fld (pv 0) rfl)))) pa_nil)) rfl))))), ?_⟩
    have sz : (10000 : Nat) ≤ sizeLine := by show 10000 ≤ 16777216; decide
    have len := told.len
    have n1 := told.n1
    refine ⟨_, rfl, _, rfl, _, rfl, l, ns, b, p, "numbers", rfl, hl, told, b1, p1, fun H1 s1 => ?_⟩
    refine ⟨fun σ' H' => ∃ v4 : Option V, σ' = [some (.ref x), some (.int (b : Nat)), some (.int (p : Nat)), some (.ref l), v4] ∧ Same H H', ?_, ?_⟩
    · have hl1 := s1 _ _ hl
      refine .inl ⟨_, rfl, l, rfl, ⟨_, SqL.of hl1⟩, fun D hD => ?_⟩
      refine lc_list (K := K) (a := l) (xs := ns.map V.int) (fun i H' => Same H1 H' ∧ H' D = some (.lst ((List.replicate i true).map V.bl))) ⟨Same.new hD, upd_same⟩ (fun i H' _ q => SqL.of (q.1 _ _ hl1)) (fun i y H' hi q => ?_) (fun H' q => ?_)
      · have lt : i < ns.length := by
          rcases Nat.lt_or_ge i ns.length with z | z
          · exact z
          · rw [List.getElem?_eq_none (by rw [List.length_map]; exact z)] at hi
            cases hi
        rw [List.getElem?_map, List.getElem?_eq_getElem lt] at hi
        cases hi
        have fit := told.fit _ (List.getElem_mem lt)
        refine ⟨rfl, ?_⟩
        refine iteT (B := Same H1 H' ∧ H' D = some (.lst ((List.replicate (i + 1) true).map V.bl))) ?_
        refine ⟨_, rfl, .int ns[i], 0, 400, rfl, it_int, ?_⟩
        rw [numV_of fit.1 fit.2]
        refine ⟨_, q.2, by rw [List.length_map, List.length_replicate]; omega, fun b o e => ?_, ?_⟩
        · have nb : b ≠ D := fun z => by rw [z, hD] at e; cases e
          rw [upd_ne nb]
          exact q.1 b o e
        · rw [upd_same, List.replicate_succ', List.map_append]
          rfl
      · refine ⟨D, List.replicate (ns.map V.int).length true, rfl, SqL.of q.2, _, rfl, ?_⟩
        rw [all_true]
        refine iteF ⟨_, rfl, l, _, 0, .int 0, rfl, rfl, SqL.of (q.1 _ _ hl1), at_nat' (i := 0) (by rw [List.getElem?_map, z0]; rfl), rfl, _, rfl, ?_⟩
        rw [decide_eq_true rfl]
        exact iteF ⟨_, rfl, s1.trans q.1⟩
    rintro σ' H3 ⟨v4, rfl, s3⟩
    have hb3 : SqB false H3 l (ns.map V.int) := s3 _ _ hl
    have hx3 : H3 x = some (.ins CT dx []) := s3 _ _ hx
    refine ⟨_, rfl, _, rfl, l, false, ns, b, p, rfl, hb3, told, by omega, fun H4 u k a s4 hu form le => ?_⟩
    have hx4 : H4 x = some (.ins CT dx []) := s4 _ _ hx3
    have hl4 : H4 l = some (.lst (ns.map V.int)) := s4 _ _ hb3
    refine ⟨u, _, rfl, SqT.of hu, rfl, _, _, rfl, ⟨_, rfl, x, CT, dx, _, rfl, hx4, TC.cl, TC.nBegin, by show 0 < 1000; decide, ?_⟩⟩
    refine ⟨_, _, rfl, ⟨_, rfl, x, CT, dx, _, rfl, upd_same, TC.cl, TC.nPeriod, by show 1 < 1000; decide, rfl, ?_⟩⟩
    rw [upd_upd]
    have lx : l ≠ x := fun z => by rw [z, hx4] at hl4; cases hl4
    have hb5 : ∀ o, SqB false (upd H4 x o) l (ns.map V.int) := fun o => by
      show upd H4 x o l = _
      rw [upd_ne lx]
      exact hl4
    refine ⟨_, rfl, _, rfl, x, CT, dx, _, _, rfl, upd_same, TC.cl, TC.nBegin, rfl, _, rfl, x, CT, dx, _, _, rfl, upd_same, TC.cl, TC.nPeriod, rfl, _, _, rfl, rfl, _, rfl, (hb5 _).cut fun l3 H5 s5 h5 => ?_⟩
    have et : cutV (ns.map V.int) none (some ((k : Int) + a)) = (nums (atW ns b p) (k + a)).map V.int := by
      have q := cutV_take (ns.map V.int) (k + a)
      rw [show ((k + a : Nat) : Int) = (k : Int) + a by omega] at q
      rw [q, ← List.map_take, take_nums told (by omega)]
    rw [et] at h5
    refine ⟨_, _, rfl, .inl ⟨SqL.of h5, fun l4 h4 => ?_⟩⟩
    have s6 := Same.new (o := .tup ((nums (atW ns b p) (k + a)).map V.int)) h4
    have hx6 := s6 _ _ (s5 _ _ (upd_same (H := H4) (a := x)))
    refine ⟨_, rfl, x, CT, dx, _, rfl, hx6, TC.cl, TC.nNumbers, by show 2 < 1000; decide, ?_⟩
    have n4 : l4 ≠ x := fun z => by rw [z, s5 _ _ upd_same] at h4; cases h4
    refine fin _ k a form le (fun c o nb e => ?_) ⟨l4, upd_same, ?_⟩
    · rw [upd_ne nb]
      refine s6 _ _ (s5 _ _ ?_)
      rw [upd_ne nb]
      exact s4 _ _ (s3 _ _ e)
    · rw [upd_ne n4]
      exact upd_same

end
section
variable {P : Program} {w : World} {K : PySem.W.Frag} {mg : Str → Option Value} {base : Heap}

abbrev s_eqT : Stmt := inClass (topS 49) 3
theorem sc_eqT : FnScope ["self", "other"] ["self", "other"] (defScope s_eqT) := ⟨rfl, rfl, rfl, by decide +kernel, rfl, by decide +kernel, by decide +kernel⟩
theorem tfs_b (b p : Int) (t : Addr) : (tfs b p t).lookup ("begin" : Str) = some (.int b) := rfl
theorem tfs_p (b p : Int) (t : Addr) : (tfs b p t).lookup ("period" : Str) = some (.int p) := rfl
theorem tfs_n (b p : Int) (t : Addr) : (tfs b p t).lookup ("numbers" : Str) = some (.ref t) := rfl
/-- == of tables -/
def spEqT (K : PySem.W.Frag) (CT : Addr) : Sp := fun vs H Q _ => ∃ (a : Addr) (b p : Nat) (ns : List Int) (y : V), vs = [.ref a, y] ∧ TabAt CT H a b p ns ∧
  ((∃ (c : Addr) (b' p' : Nat) (ms : List Int), y = .ref c ∧ TabAt CT H c b' p' ms ∧ Q (.bl (decide (b = b' ∧ p = p' ∧ ns = ms))) H) ∨ ∃ t, TyX K H y t ∧ PySem.W.kitOne K t (.ref CT) = some false ∧ Q (.bl false) H)
theorem ok_eqT {CT f : Addr} {fd : FuncData} (F : Fun K "__eq__" "Table.__eq__" s_eqT f fd) (U : Blt mg) (gTab : mg "Table" = some (.ref CT)) (TC : TabC K CT) (ty : TyC K CT) (self_ : PySem.W.kitOne K (.ref CT) (.ref CT) = some true) : FnOk P w K mg base CX0 1 f fd ["self", "other"] (spEqT K CT) := by
  refine F.ok sc_eqT (fun vs H Q E h => ?_) (fun cdv A outer s H vs Q E hr h => ?_)
  · obtain ⟨a, b, p, ns, y, rfl, _⟩ := h
    rfl
  · obtain ⟨a, b, p, ns, y, rfl, ⟨dx, t, ha, ht⟩, how⟩ := h
    refine ⟨_, (pss_one (ps_ret (pe_and (pe_callB call_isi rfl U.z_isinstance (by decide +kernel) (pa_cons (pv 1) (pa_cons (pe_glob (v := .ref _) rfl gTab rfl) pa_nil))) (pe_and (pe_cmpR op_eq (pe_fld (pv 0) rfl) (pe_fld (pv 1) rfl) (nomark _)) (pe_and (pe_cmpR op_eq (pe_fld (pv 0) rfl) (pe_fld (pv 1) rfl) (nomark _)) (pe_one (pe_cmpR (op_eqD hr.units) (pe_fld (pv 0) rfl) (pe_fld (pv 1) rfl) (nomark _)))))))), ?_⟩
    rcases how with ⟨c, b', p', ms, rfl, ⟨dy, u, hc, hu⟩, fin⟩ | ⟨t', tyx, no, fin⟩
    · refine ⟨_, rfl, _, _, _, _, _, rfl, .own CT, ty.ty TC.cl hc, self_, _, rfl, iteT ?_⟩
      refine ⟨_, rfl, a, CT, dx, _, _, rfl, ha, TC.cl, TC.nBegin, tfs_b _ _ _, _, rfl, c, CT, dy, _, _, rfl, hc, TC.cl, TC.nBegin, tfs_b _ _ _, rfl, _, rfl, ?_⟩
      refine ite2 (fun e1 => ?_) (fun e1 => ?_)
      · have q1 : b = b' := by have z := V.int.inj (of_decide_eq_true e1); omega
        refine ⟨_, rfl, a, CT, dx, _, _, rfl, ha, TC.cl, TC.nPeriod, tfs_p _ _ _, _, rfl, c, CT, dy, _, _, rfl, hc, TC.cl, TC.nPeriod, tfs_p _ _ _, rfl, _, rfl, ?_⟩
        refine ite2 (fun e2 => ?_) (fun e2 => ?_)
        · have q2 : p = p' := by have z := V.int.inj (of_decide_eq_true e2); omega
          refine ⟨_, rfl, a, CT, dx, _, _, rfl, ha, TC.cl, TC.nNumbers, tfs_n _ _ _, _, rfl, c, CT, dy, _, _, rfl, hc, TC.cl, TC.nNumbers, tfs_n _ _ _, eq_tups ht hu ?_⟩
          rw [show decide (b = b' ∧ p = p' ∧ ns = ms) = decide (ns = ms) from by simp [q1, q2]] at fin
          exact fin
        · have q2 : ¬ p = p' := fun z => e2 (decide_eq_true (by rw [z]))
          rw [decide_eq_false (fun z => q2 z.2.1)] at fin
          exact fin
      · have q1 : ¬ b = b' := fun z => e1 (decide_eq_true (by rw [z]))
        rw [decide_eq_false (fun z => q1 z.1)] at fin
        exact fin
    · exact ⟨_, rfl, _, _, _, _, _, rfl, .own CT, tyx, no, _, rfl, iteF fin⟩
end
end Fz
set_option Elab.async false
set_option linter.all false
set_option maxRecDepth 100000
set_option maxHeartbeats 2000000
namespace Fz
open PySem PySem.Spec PyProof.Rows L2
section
variable {P : Program} {w : World} {K : PySem.W.Frag} {mg : Str → Option Value} {base : Heap}

abbrev s_cs : Stmt := topS 12
theorem sc_cs : FnScope ["value"] ["value"] (defScope s_cs) := ⟨rfl, rfl, rfl, by decide +kernel, rfl, by decide +kernel, by decide +kernel⟩
/-- a table that tells W -/
def WTab (CT : Addr) (H : Hp) (x : Addr) (W : Nat → Int) : Prop := ∃ b p, TabAt CT H x b p (nums W (b + p)) ∧ Form W b p ∧ b + p ≤ 1000
def spCsOk : Sp := fun vs H Q _ => ∃ h : Int, vs = [.int h] ∧ 0 ≤ h ∧ h ≤ great ∧ Q .non H
theorem ok_cs {f fN : Addr} {tBG : Tok} {fd fdN : FuncData} (F : Fun K "check_size" "check_size" s_cs f fd) (U : Blt mg) (N : Fun K "is_number" "is_number" s_is_number fN fdN) (gN : mg "is_number" = some (.ref fN)) (b_num : L2.Binds K fdN ["value", "least", "most"] []) (gBig : mg "BIGGEST" = some (.int great tBG)) : FnOk P w K mg base CX0 2 f fd ["value"] spCsOk := by
  have G_num : FnOk P w K mg base CX0 1 fN fdN ["value", "least", "most"] (spNumX K) := ok_is_numberX N U
  refine F.ok sc_cs (fun vs H Q E h => ?_) (fun cdv A outer s H vs Q E hr h => ?_)
  · obtain ⟨h, rfl, _⟩ := h
    rfl
  · obtain ⟨h, rfl, h0, h1, fin⟩ := h
    refine ⟨_, (pss_one (ps_if (pt_not (pt_val (pe_call G_num (hr.mono (by decide)) rfl gN N.kp b_num .nil pass0 (by exact (pa_cons (pv 0) (pa_cons pe_int (pa_cons (pe_glob (v := .int great) rfl gBig ⟨tBG, rfl⟩) pa_nil))))))) (pss_one (ps_never)) pss_nil)), ?_⟩
    refine ⟨_, rfl, .int h, 0, great, rfl, it_int, _, rfl, ?_⟩
    have e : numV 0 great (.int h) = true := numV_of h0 h1
    rw [e]
    exact iteF fin
abbrev s_po : Stmt := topS 45
theorem sc_po : FnScope ["at", "begin", "period"] ["at", "begin", "period"] (defScope s_po) := ⟨rfl, rfl, rfl, by decide +kernel, rfl, by decide +kernel, by decide +kernel⟩
def spPlace : Sp := fun vs H Q _ => ∃ h b p : Nat, vs = [.int h, .int b, .int p] ∧ 1 ≤ p ∧ Q (.int ((if h < b then h else b + (h - b) % p : Nat) : Int)) H
theorem ok_po {f : Addr} {fd : FuncData} (F : Fun K "place_of" "place_of" s_po f fd) : FnOk P w K mg base CX0 1 f fd ["at", "begin", "period"] spPlace := by
  refine F.ok sc_po (fun vs H Q E h => ?_) (fun cdv A outer s H vs Q E hr h => ?_)
  · obtain ⟨h, b, p, rfl, _⟩ := h
    rfl
  · obtain ⟨h, b, p, rfl, p1, fin⟩ := h
    refine ⟨_, (pss_one (ps_ret (pe_ifExp (pt_cmpR op_lt (pv 0) (pv 1) (nomark _)) (pv 0) (pe_op op_add (pv 1) (pe_op op_mod (pe_op op_sub (pv 0) (pv 1)) (pv 2)))))), ?_⟩
    refine ⟨_, rfl, _, rfl, _, _, rfl, rfl, _, rfl, ?_⟩
    refine ite2 (fun c => ?_) (fun c => ?_)
    · have c1 : h < b := by have q : (h : Int) < (b : Int) := of_decide_eq_true c; omega
      rw [if_pos c1] at fin
      exact ⟨_, rfl, fin⟩
    · have c1 : ¬ h < b := fun y => c (decide_eq_true (by omega))
      rw [if_neg c1] at fin
      have e : ((b : Int) + ((h : Int) - b) % p) = ((b + (h - b) % p : Nat) : Int) := by
        rw [show (h : Int) - b = ((h - b : Nat) : Int) by omega]
        rfl
      refine ⟨_, rfl, _, rfl, _, rfl, _, _, rfl, rfl, _, rfl, _, _, rfl, rfl, by omega, _, _, rfl, rfl, ?_⟩
      show Q (.int ((b : Int) + ((h : Int) - b) % p)) H
      rw [e]
      exact fin
abbrev s_wo : Stmt := inClass (topS 49) 10
theorem sc_wo : FnScope ["self", "n"] ["self", "n"] (defScope s_wo) := ⟨rfl, rfl, rfl, by decide +kernel, rfl, by decide +kernel, by decide +kernel⟩
def spWo (CT : Addr) : Sp := fun vs H Q _ => ∃ (x : Addr) (W : Nat → Int) (h : Nat), vs = [.ref x, .int h] ∧ WTab CT H x W ∧ Q (.int (W h)) H
theorem ok_wo {CT f fPo : Addr} {fd fdPo : FuncData} (F : Fun K "worth_of" "Table.worth_of" s_wo f fd) (TC : TabC K CT) (Po : Fun K "place_of" "place_of" s_po fPo fdPo) (gPo : mg "place_of" = some (.ref fPo)) (b_po : L2.Binds K fdPo ["at", "begin", "period"] []) : FnOk P w K mg base CX0 2 f fd ["self", "n"] (spWo CT) := by
  have G_po : FnOk P w K mg base CX0 1 fPo fdPo ["at", "begin", "period"] spPlace := ok_po Po
  refine F.ok sc_wo (fun vs H Q E h => ?_) (fun cdv A outer s H vs Q E hr h => ?_)
  · obtain ⟨x, W, h, rfl, _⟩ := h
    rfl
  · obtain ⟨x, W, h, rfl, ⟨b, p, ⟨dx, t, hx, ht⟩, fo, le⟩, fin⟩ := h
    refine ⟨_, (pss_one (ps_ret (pe_ix ix_tup (pe_fld (pv 0) rfl) (pe_call G_po (hr.mono (by decide)) rfl gPo Po.kp b_po .nil pass0 (by exact (pa_cons (pv 1) (pa_cons (pe_fld (pv 0) rfl) (pa_cons (pe_fld (pv 0) rfl) pa_nil))))) (fun _ _ => rfl)))), ?_⟩
    have p1 := fo.p1
    have lt : (if h < b then h else b + (h - b) % p) < b + p := by
      have m := Nat.mod_lt (h - b) (show p > 0 by omega)
      split <;> omega
    refine ⟨_, rfl, x, CT, dx, _, _, rfl, hx, TC.cl, TC.nNumbers, tfs_n _ _ _, _, rfl, _, rfl, x, CT, dx, _, _, rfl, hx, TC.cl, TC.nBegin, tfs_b _ _ _, _, rfl, x, CT, dx, _, _, rfl, hx, TC.cl, TC.nPeriod, tfs_p _ _ _, h, b, p, rfl, p1, t, _, _, .int (W h), rfl, rfl, SqT.of ht, at_nat' ?_, fin⟩
    rw [List.getElem?_map]
    unfold nums
    rw [List.getElem?_map, List.getElem?_range lt]
    show some (V.int (W (if h < b then h else b + (h - b) % p))) = _
    rw [form_at fo]
abbrev s_gi : Stmt := inClass (topS 49) 5
theorem sc_gi : FnScope ["self", "at"] ["self", "at"] (defScope s_gi) := ⟨rfl, rfl, rfl, by decide +kernel, rfl, by decide +kernel, by decide +kernel⟩
def spGi (CT : Addr) : Sp := fun vs H Q _ => ∃ (x : Addr) (W : Nat → Int) (h : Nat), vs = [.ref x, .int h] ∧ WTab CT H x W ∧ (h : Int) ≤ great ∧ Q (.int (W h)) H
theorem ok_gi {CT f fCs fWo : Addr} {fd fdCs fdWo : FuncData} (F : Fun K "__getitem__" "Table.__getitem__" s_gi f fd) (TC : TabC K CT) (Cs : Fun K "check_size" "check_size" s_cs fCs fdCs) (gCs : mg "check_size" = some (.ref fCs)) (b_cs : L2.Binds K fdCs ["value"] []) (G_cs : FnOk P w K mg base CX0 2 fCs fdCs ["value"] spCsOk)
    (Mwo : Meth K CT "worth_of" fWo) (G_wo : FnOk P w K mg base CX0 2 fWo fdWo ["self", "n"] (spWo CT)) (b_wo : L2.Binds K fdWo ["self", "n"] []) : FnOk P w K mg base CX0 3 f fd ["self", "at"] (spGi CT) := by
  refine F.ok sc_gi (fun vs H Q E h => ?_) (fun cdv A outer s H vs Q E hr h => ?_)
  · obtain ⟨x, W, h, rfl, _⟩ := h
    rfl
  · obtain ⟨x, W, h, rfl, wt, hg, fin⟩ := h
    obtain ⟨b, p, ⟨dx, t, hx, ht⟩, fo, le⟩ := id wt
    refine ⟨_, (pss_cons (ps_expr (pe_call G_cs (hr.mono (by decide)) rfl gCs Cs.kp b_cs .nil pass0 (by exact (pa_cons (pv 1) pa_nil))))
  (pss_one (ps_ret (pe_meth (pv 0) TC.cl Mwo G_wo (hr.mono (by decide)) b_wo .nil pass0 (by exact (pa_cons (pv 1) pa_nil)))))), ?_⟩
    refine ⟨_, rfl, h, rfl, Int.natCast_nonneg h, hg, ?_⟩
    exact ⟨_, rfl, x, dx, _, rfl, hx, rfl, _, rfl, x, W, h, rfl, wt, fin⟩
abbrev s_ft : Stmt := topS 46
theorem sc_ft : FnScope ["told", "begin", "count", "again", "rounds"] ["told", "begin", "count"] (defScope s_ft) := ⟨rfl, rfl, rfl, by decide +kernel, rfl, by decide +kernel, by decide +kernel⟩
theorem un_same {H H' : Hp} (s : Same H H') {l : Addr} (h : H' l = none) : H l = none := by
  cases e : H l with
  | none => rfl
  | some o => rw [s _ _ e] at h; cases h
theorem rep_atI (gs : List Int) (g1 : 1 ≤ gs.length) : ∀ (k i : Nat), i < k * gs.length → ((List.replicate k gs).flatten)[i]? = gs[i % gs.length]?
  | 0, i, h => by omega
  | k + 1, i, h => by
    rw [List.replicate_succ, List.flatten_cons]
    by_cases c : i < gs.length
    · rw [List.getElem?_append_left c, Nat.mod_eq_of_lt c]
    · rw [List.getElem?_append_right (by omega), rep_atI gs g1 k (i - gs.length) (by rw [Nat.succ_mul] at h; omega), show i % gs.length = (i - gs.length) % gs.length from Nat.mod_eq_sub_mod (by omega)]
theorem flat_repI (bs : List Int) : ∀ k : Nat, (List.replicate k (bs.map V.int)).flatten = ((List.replicate k bs).flatten).map V.int
  | 0 => rfl
  | k + 1 => by rw [List.replicate_succ, List.flatten_cons, flat_repI bs k, List.replicate_succ, List.flatten_cons, List.map_append]
theorem flat_lenI (bs : List Int) : ∀ k : Nat, ((List.replicate k bs).flatten).length = k * bs.length
  | 0 => by simp
  | k + 1 => by rw [List.replicate_succ, List.flatten_cons, List.length_append, flat_lenI bs k, Nat.succ_mul, Nat.add_comm]
/-- a row told longer -/
theorem long_rowI {ns : List Int} {b k n : Nat} (lt : b < ns.length) (h : n ≤ ns.length + k * (ns.length - b)) : (ns ++ (List.replicate k (ns.drop b)).flatten).take n = nums (atW ns b (ns.length - b)) n := by
  have g1 : 1 ≤ (ns.drop b).length := by rw [List.length_drop]; omega
  have gl : (ns.drop b).length = ns.length - b := List.length_drop
  unfold nums
  apply List.ext_getElem?
  intro i
  by_cases c : i < n
  · rw [List.getElem?_take_of_lt c, List.getElem?_map, List.getElem?_range c]
    show _ = some (atW ns b (ns.length - b) i)
    unfold atW
    rw [List.getD_eq_getElem?_getD]
    by_cases c1 : i < b
    · rw [if_pos c1, List.getElem?_append_left (by omega), List.getElem?_eq_getElem (by omega)]
      rfl
    · have m := Nat.mod_lt (i - b) (show ns.length - b > 0 by omega)
      rw [if_neg c1]
      by_cases c2 : i < ns.length
      · rw [List.getElem?_append_left c2, Nat.mod_eq_of_lt (show i - b < ns.length - b by omega), show b + (i - b) = i by omega, List.getElem?_eq_getElem c2]
        rfl
      · rw [List.getElem?_append_right (by omega), rep_atI _ g1 k _ (by rw [gl]; omega), gl, List.getElem?_drop, show (i - ns.length) % (ns.length - b) = (i - b) % (ns.length - b) from by rw [show i - ns.length = i - b - (ns.length - b) by omega, ← Nat.mod_eq_sub_mod (by omega)], List.getElem?_eq_getElem (by omega)]
        rfl
  · rw [List.getElem?_eq_none (by rw [List.length_take]; omega), List.getElem?_eq_none (by rw [List.length_map, List.length_range]; omega)]
def spFtI : Sp := fun vs H Q _ => ∃ (t : Addr) (ns : List Int) (b n : Nat), vs = [.ref t, .int b, .int n] ∧ H t = some (.tup (ns.map V.int)) ∧ b < ns.length ∧ ns.length ≤ 1000 ∧ n ≤ 900 ∧ ∀ H' l, Same H H' → H' l = some (.lst ((nums (atW ns b (ns.length - b)) n).map V.int)) → H l = none → Q (.ref l) H'
theorem ok_ft {f : Addr} {fd : FuncData} (F : Fun K "first_told" "first_told" s_ft f fd) (U : Blt mg) : FnOk P w K mg base CX0 1 f fd ["told", "begin", "count"] spFtI := by
  refine F.ok sc_ft (fun vs H Q E h => ?_) (fun cdv A outer s H vs Q E hr h => ?_)
  · obtain ⟨t, ns, b, n, rfl, _⟩ := h
    rfl
  · obtain ⟨t, ns, b, n, rfl, ht, lt, few, nb, fin⟩ := h
    refine ⟨_, (pss_cons (ps_set (i := 3) sc_ft.nd rfl (Or.inl rfl) (pe_slice sl_seq (pv 0) (po_some (pv 1)) po_none))
  (pss_cons (ps_set (i := 4) sc_ft.nd rfl (Or.inl rfl) (pe_op op_add (pe_op op_fdiv (pe_callB (call_max2 rfl) rfl U.z_max (by decide +kernel) (pa_cons pe_int (pa_cons (pe_op op_sub (pv 2) (pe_callB call_len rfl U.z_len (by decide +kernel) (pa_cons (pv 0) pa_nil))) pa_nil))) (pe_callB call_len rfl U.z_len (by decide +kernel) (pa_cons (pv 3) pa_nil))) pe_int))
  (pss_one (ps_ret (pe_callTy call_list_of rfl U.z_list (by decide +kernel) (pa_cons (pe_slice sl_seq (pe_op op_catA (pv 0) (pe_op op_repA (pv 3) (pv 4))) po_none (po_some (pv 2))) pa_nil)))))), ?_⟩
    have sz : (2000000 : Nat) ≤ sizeLine := by show 2000000 ≤ 16777216; decide
    have hT : SqB true H t (ns.map V.int) := ht
    obtain ⟨gs, egs⟩ : ∃ gs, gs = ns.drop b := ⟨_, rfl⟩
    have gl : gs.length = ns.length - b := by rw [egs, List.length_drop]
    have g1 : 1 ≤ gs.length := by omega
    refine ⟨_, rfl, _, rfl, _, rfl, hT.cut fun u H1 s1 h1 => ?_⟩
    have e1 : cutV (ns.map V.int) (some (b : Int)) none = gs.map V.int := by rw [cutV_drop, ← List.map_drop, egs]
    rw [e1] at h1
    have lT : LenV K (.ref t) H1 ns.length := by
      have q := SeqAt2.len (K := K) (hT.same s1).ii
      rw [List.length_map] at q
      exact q
    have lG : LenV K (.ref u) H1 gs.length := by
      have q := SeqAt2.len (K := K) (SqB.ii (t := true) h1)
      rw [List.length_map] at q
      exact q
    refine ⟨_, rfl, _, rfl, _, _, rfl, lT, _, _, rfl, rfl, _, _, rfl, _, rfl, _, _, rfl, lG, _, _, rfl, rfl, ⟨by omega, by omega⟩, _, _, rfl, rfl, ?_⟩
    have em : (if (n : Int) - ((ns.length : Nat) : Int) > 0 then (n : Int) - ((ns.length : Nat) : Int) else 0) / (gs.length : Int) + 1 = (((n - ns.length) / gs.length + 1 : Nat) : Int) := by
      rw [show (if (n : Int) - ((ns.length : Nat) : Int) > 0 then (n : Int) - ((ns.length : Nat) : Int) else 0) = ((n - ns.length : Nat) : Int) from by split <;> omega]
      rfl
    have enough : n ≤ ns.length + ((n - ns.length) / gs.length + 1) * gs.length := by
      have d := Nat.div_add_mod (n - ns.length) gs.length
      have m := Nat.mod_lt (n - ns.length) (show gs.length > 0 by omega)
      rw [Nat.succ_mul, Nat.mul_comm ((n - ns.length) / gs.length)]
      omega
    obtain ⟨kk, hk⟩ : ∃ kk, kk = (n - ns.length) / gs.length := ⟨_, rfl⟩
    have small : (n - ns.length) / gs.length ≤ 900 := Nat.le_trans (Nat.div_le_self _ _) (by omega)
    have bound : ((n - ns.length) / gs.length + 1) * gs.length ≤ 901 * 1000 := Nat.mul_le_mul (by omega) (by omega)
    rw [← hk] at em enough small bound
    refine ⟨_, rfl, _, rfl, _, rfl, mul_b h1 (fun z => by rw [List.map_eq_nil_iff] at z; rw [z] at g1; cases g1) ?_ ?_ (by rw [List.length_map]; omega) fun t2 H2 s2 h2 => ?_⟩
    · show (1 : Int) ≤ (if (n : Int) - ((ns.length : Nat) : Int) > 0 then (n : Int) - ((ns.length : Nat) : Int) else 0) / (gs.length : Int) + 1
      rw [em]
      exact Int.ofNat_le.mpr (Nat.succ_le_succ (Nat.zero_le kk))
    · show (if (n : Int) - ((ns.length : Nat) : Int) > 0 then (n : Int) - ((ns.length : Nat) : Int) else 0) / (gs.length : Int) + 1 ≤ (1000 : Int)
      rw [em]
      exact Int.ofNat_le.mpr (show kk + 1 ≤ 1000 by omega)
    rw [em, Int.toNat_natCast, flat_repI] at h2
    refine cat_b ((hT.same s1).same s2) h2 (by rw [List.length_map, List.length_map, flat_lenI]; omega) fun t3 H3 s3 h3 => ?_
    rw [← List.map_append] at h3
    have h3' : SqB true H3 t3 ((ns ++ (List.replicate (kk + 1) gs).flatten).map V.int) := h3
    refine ⟨_, rfl, _, rfl, h3'.cut fun t4 H4 s4 h4 => ?_⟩
    rw [cutV_take, ← List.map_take, egs, long_rowI lt (by rw [← gl]; exact enough)] at h4
    refine ⟨t4, _, rfl, .inr (SqT.of h4), fun l hl => ?_⟩
    have s14 := ((s1.trans s2).trans s3).trans s4
    exact fin _ l (s14.trans (Same.new hl)) upd_same (un_same s14 hl)
abbrev s_fw : Stmt := inClass (topS 49) 11
theorem sc_fw : FnScope ["self", "count"] ["self", "count"] (defScope s_fw) := ⟨rfl, rfl, rfl, by decide +kernel, rfl, by decide +kernel, by decide +kernel⟩
def spFw (CT : Addr) : Sp := fun vs H Q _ => ∃ (x : Addr) (W : Nat → Int) (n : Nat), vs = [.ref x, .int n] ∧ WTab CT H x W ∧ n ≤ 900 ∧ ∀ H' l, Same H H' → H' l = some (.lst ((nums W n).map V.int)) → H l = none → Q (.ref l) H'
theorem ok_fw {CT f fFt : Addr} {fd fdFt : FuncData} (F : Fun K "first_worths" "Table.first_worths" s_fw f fd) (U : Blt mg) (TC : TabC K CT) (Ft : Fun K "first_told" "first_told" s_ft fFt fdFt) (gFt : mg "first_told" = some (.ref fFt)) (b_ft : L2.Binds K fdFt ["told", "begin", "count"] []) : FnOk P w K mg base CX0 2 f fd ["self", "count"] (spFw CT) := by
  have G_ft : FnOk P w K mg base CX0 1 fFt fdFt ["told", "begin", "count"] spFtI := ok_ft Ft U
  refine F.ok sc_fw (fun vs H Q E h => ?_) (fun cdv A outer s H vs Q E hr h => ?_)
  · obtain ⟨x, W, n, rfl, _⟩ := h
    rfl
  · obtain ⟨x, W, n, rfl, ⟨b, p, ⟨dx, t, hx, ht⟩, fo, le⟩, nb, fin⟩ := h
    refine ⟨_, (pss_one (ps_ret (pe_call G_ft (hr.mono (by decide)) rfl gFt Ft.kp b_ft .nil pass0 (by exact (pa_cons (pe_fld (pv 0) rfl) (pa_cons (pe_fld (pv 0) rfl) (pa_cons (pv 1) pa_nil))))))), ?_⟩
    have p1 := fo.p1
    have nl := nums_len W (b + p)
    refine ⟨_, rfl, x, CT, dx, _, _, rfl, hx, TC.cl, TC.nNumbers, tfs_n _ _ _, _, rfl, x, CT, dx, _, _, rfl, hx, TC.cl, TC.nBegin, tfs_b _ _ _, _, rfl, t, nums W (b + p), b, n, rfl, ht, by omega, by omega, nb, fun H' l s hl nn => fin H' l s ?_ nn⟩
    rw [hl]
    have e : atW (nums W (b + p)) b ((nums W (b + p)).length - b) = W := funext fun h => by
      have m := Nat.mod_lt (h - b) (show p > 0 by omega)
      have lt : (if h < b then h else b + (h - b) % p) < b + p := by split <;> omega
      rw [nl, Nat.add_sub_cancel_left]
      unfold atW
      rw [List.getD_eq_getElem?_getD]
      have q : (nums W (b + p))[(if h < b then h else b + (h - b) % p)]? = some (W (if h < b then h else b + (h - b) % p)) := by
        unfold nums
        rw [List.getElem?_map, List.getElem?_range lt]
        rfl
      rw [q]
      exact form_at fo h
    rw [e]
end
end Fz
set_option Elab.async false
set_option linter.all false
set_option maxRecDepth 100000
set_option maxHeartbeats 2000000
namespace Fz
open PySem PySem.Spec PyProof.Rows L2
section
variable {P : Program} {w : World} {K : PySem.W.Frag} {mg : Str → Option Value} {base : Heap}

abbrev s_bm : Stmt := topS 33
theorem sc_bm : FnScope ["table", "rule", "behind", "end", "told", "marks", "first", "heap", "_"] ["table", "rule"] (defScope s_bm) := ⟨rfl, rfl, rfl, by decide +kernel, rfl, by decide +kernel, by decide +kernel⟩
/-- math.lcm of two lengths -/
def rLcm : List V → Hp → VK → Prop := fun vs H Q => ∃ a b : Nat, vs = [.int a, .int b] ∧ a ≤ 1000 ∧ b ≤ 1000 ∧ Q (.int ((Nat.lcm a b : Nat) : Int)) H
theorem cr_lcm {X : Cx} : CallR X (.builtin "math.lcm") rLcm := by
  intro pins s σ H vs us Q I r h
  obtain ⟨a, b, rfl, ha, hb, q⟩ := h
  obtain ⟨t, u, rfl⟩ := Vals.int2 r
  have le : Nat.lcm a b ≤ a * b := PySem.W.mc_lcm_le a b
  have le2 : a * b ≤ 1000 * 1000 := Nat.mul_le_mul ha hb
  refine PySem.W.mg_lcm_v (c := ((Nat.lcm a b : Nat) : Int)) ?_ ?_ ?_ ?_ ⟨.int _, H, I.tok _, ⟨_, rfl⟩, q⟩
  · rw [Int.natAbs_natCast]; omega
  · rw [Int.natAbs_natCast]; omega
  · rw [Int.natAbs_natCast, Int.natAbs_natCast, PySem.W.mc_lcm_one]
  · rw [Int.natAbs_natCast]
    exact Nat.lt_of_le_of_lt (Nat.le_trans (Nat.log2_le_self _) (show Nat.lcm a b ≤ 1000000 by omega)) (by decide)
theorem fits_s {i : Int} (h0 : 0 ≤ i) (h1 : i ≤ 100000) : Builtin.Range.rangeFitsLong i = true := by
  unfold Builtin.Range.rangeFitsLong
  rw [decide_eq_true (Int.le_trans (show -(2 ^ 63) ≤ (0 : Int) by decide) h0), decide_eq_true (Int.lt_of_le_of_lt h1 (by decide))]
  rfl
theorem rgc_m {f e m : Nat} (m0 : 1 ≤ m) (m6 : m ≤ 6) (e9 : e ≤ 900) (f9 : f ≤ 900) : ∃ n : Nat, RgC f e m n ∧ ∀ i, i < n → f + i * m < e := by
  have d : (e - f - 1) / m ≤ e - f - 1 := Nat.div_le_self _ _
  have size : Builtin.Range.rangeSize (f : Int) (e : Int) (m : Int) = ((if f < e then (e - f - 1) / m + 1 else 0 : Nat) : Int) := by
    unfold Builtin.Range.rangeSize
    rw [if_pos (show (m : Int) > 0 by omega)]
    by_cases c : f < e
    · rw [if_pos (show (f : Int) < e by omega), if_pos c, show (e : Int) - f - 1 = ((e - f - 1 : Nat) : Int) by omega]
      rfl
    · rw [if_neg (show ¬ (f : Int) < e by omega), if_neg c]
      rfl
  refine ⟨if f < e then (e - f - 1) / m + 1 else 0, ⟨by omega, by omega, ?_, size⟩, fun i hi => ?_⟩
  · obtain ⟨s, es, sl⟩ : ∃ s : Nat, (if f < e then (e - f - 1) / m + 1 else 0) = s ∧ s ≤ 1000 := ⟨_, rfl, by split <;> omega⟩
    rw [es] at size
    unfold Builtin.Range.small
    rw [size]
    rw [fits_s (show 0 ≤ (f : Int) by omega) (by omega), fits_s (show 0 ≤ (e : Int) by omega) (by omega), fits_s (show 0 ≤ (m : Int) by omega) (by omega), fits_s (show 0 ≤ (s : Int) by omega) (by omega), if_pos (show (m : Int) > 0 by omega), fits_s (show 0 ≤ (e : Int) + ((m : Int) - 1) by omega) (by omega), Bool.or_true]
    rfl
  · by_cases c : f < e
    · rw [if_pos c] at hi
      have q := Nat.mul_le_of_le_div m i (e - f - 1) (by omega)
      omega
    · rw [if_neg c] at hi
      omega
theorem first_mod {st r m : Int} (r0 : 0 ≤ r) (r1 : r < m) (i : Int) : (st + (r - st) % m + i * m) % m = r := by
  rw [Int.add_mul_emod_self_right, Int.add_emod_emod, show st + (r - st) = r by omega, Int.emod_eq_of_lt r0 r1]
theorem ixN_nat {n h : Nat} (lt : h < n) : ixN n (h : Int) = some h := by
  unfold ixN
  rw [if_pos (by omega), if_pos (by omega), Int.toNat_natCast]
/-- a table of a short round -/
def SmT (CT : Addr) (H : Hp) (x : Addr) (W : Nat → Int) : Prop := ∃ b p, TabAt CT H x b p (nums W (b + p)) ∧ Form W b p ∧ b + p ≤ 20
theorem SmT.wt {CT : Addr} {H : Hp} {x : Addr} {W : Nat → Int} (h : SmT CT H x W) : WTab CT H x W := let ⟨b, p, a, c, d⟩ := h; ⟨b, p, a, c, by omega⟩
theorem SmT.same {CT : Addr} {H H' : Hp} {x : Addr} {W : Nat → Int} (h : SmT CT H x W) (s : Same H H') : SmT CT H' x W := let ⟨b, p, a, c⟩ := h; ⟨b, p, a.same s, c⟩
theorem SmT.mv {CT : Addr} {H H' : Hp} {x p q : Addr} {n : Nat} {W : Nat → Int} (h : SmT CT H x W) (pen : PenAt n H p q) (m : Mv p H H') : SmT CT H' x W := let ⟨b, pe, a, c⟩ := h; ⟨b, pe, a.mv pen m, c⟩
/-- where it is true, the rule stands and the worths are alike -/
def Marks (d : RD) (W : Nat → Int) (ms : List Bool) : Prop := ∀ h : Nat, ms[h]? = some true → standsB d h = true ∧ ∃ l : Nat, leftI d h = l ∧ W h = W l
theorem marks0 {d : RD} {W : Nat → Int} (n : Nat) : Marks d W (List.replicate n false) := fun h e => by
  rw [List.getElem?_replicate] at e
  split at e <;> cases e
theorem marks_put {d : RD} {W : Nat → Int} {ms : List Bool} (k : Marks d W ms) {h : Nat} {b : Bool} (q : b = true → standsB d h = true ∧ ∃ l : Nat, leftI d h = l ∧ W h = W l) : Marks d W (ms.set h b) := fun j e => by
  by_cases c : h = j
  · subst c
    rw [List.getElem?_set_self'] at e
    cases z : ms[h]? with
    | none => rw [z] at e; cases e
    | some o =>
      rw [z] at e
      exact q (Option.some.inj e)
  · rw [List.getElem?_set_ne c] at e
    exact k j e
theorem left_ok {d : RD} (wf : d.Wf) {h : Nat} (sb : standsB d h = true) : ∃ l : Nat, leftI d h = l ∧ l < h + 1 ∧ (l : Int) ≤ h := by
  unfold standsB at sb
  have s := of_decide_eq_true (Bool.and_eq_true_iff.mp sb).1
  have n0 := wf.n0
  have l0 := wf.l0
  cases d with
  | fixed s' r m l =>
    have s2 : s' + l ≤ (h : Int) := s
    have n1 : (1 : Int) ≤ s' := n0
    have l1 : (0 : Int) ≤ l := l0
    refine ⟨((h : Int) - s').toNat, ?_, ?_, ?_⟩
    · show (h : Int) - s' = _
      omega
    · omega
    · omega
  | down t r m =>
    have s2 : t + 1 ≤ (h : Int) := s
    have n1 : (0 : Int) ≤ t := n0
    refine ⟨t.toNat, ?_, ?_, ?_⟩
    · show t = _
      omega
    · omega
    · omega
/-- rule.left_from(heap), of both kinds -/
theorem left_or {CF CD y : Addr} {σ : L2.St} {i j : Nat} {H : Hp} {d : RD} {h l : Int} {R : VK} (vi : σ[i]? = some (some (.ref y))) (vj : σ[j]? = some (some (.int h))) (ra : RuleAt CF CD H y d) (el : leftI d h = l) (k : R (.int l) H) :
    tEither (tMeth CF "left_from" (spLeftFrom CF CD) [] E0 (tVar i) (tCons (tVar j) tNil)) (tMeth CD "left_from" (spLeftD CF CD) [] E0 (tVar i) (tCons (tVar j) tNil)) σ H R := by
  obtain ⟨dy, hy⟩ := ra
  subst el
  cases d with
  | fixed s r m lv => exact .inl ⟨_, vi, y, dy, _, rfl, hy, rfl, _, vj, y, s, r, m, lv, h, rfl, ⟨dy, hy⟩, k⟩
  | down t r m => exact .inr ⟨_, vi, y, dy, _, rfl, hy, rfl, _, vj, y, t, r, m, h, rfl, ⟨dy, hy⟩, k⟩
def spBm (CT CF CD : Addr) : Sp := fun vs H Q _ => ∃ (x y : Addr) (W : Nat → Int) (d : RD), vs = [.ref x, .ref y] ∧ SmT CT H x W ∧ RuleAt CF CD H y d ∧ d.Wf ∧ d.start ≤ 20 ∧
  ∀ H' t la lb (as bs : List Bool), Same H H' → H' t = some (.tup [.ref la, .ref lb]) → H' la = some (.lst (as.map V.bl)) → H' lb = some (.lst (bs.map V.bl)) → Marks d W (as ++ bs) → as.length + bs.length ≤ 900 → Q (.ref t) H'
theorem ok_bm {CT CF CD f fFw fLF fLD : Addr} {fd fdFw fdLF fdLD : FuncData} (F : Fun K "barred_marks" "barred_marks" s_bm f fd) (U : Blt mg) (TC : TabC K CT) (PQ : PrgQ K CF CD) (gLcm : mg "lcm" = some (.builtin "math.lcm"))
    (fwM : Meth K CT "first_worths" fFw) (G_fw : FnOk P w K mg base CX0 2 fFw fdFw ["self", "count"] (spFw CT)) (b_fw : L2.Binds K fdFw ["self", "count"] [])
    (MlF : Meth K CF "left_from" fLF) (G_lf : FnOk P w K mg base CX0 1 fLF fdLF ["self", "heap"] (spLeftFrom CF CD)) (b_lf : L2.Binds K fdLF ["self", "heap"] []) (MlD : Meth K CD "left_from" fLD) (G_ld : FnOk P w K mg base CX0 1 fLD fdLD ["self", "heap"] (spLeftD CF CD)) (b_ld : L2.Binds K fdLD ["self", "heap"] []) : FnOk P w K mg base CX0 4 f fd ["table", "rule"] (spBm CT CF CD) := by
  refine F.ok sc_bm (fun vs H Q E h => ?_) (fun cdv A outer s H vs Q E hr h => ?_)
  · obtain ⟨x, y, W, d, rfl, _⟩ := h
    rfl
  · obtain ⟨x, y, W, d, rfl, st0, ra0, wf, st20, fin⟩ := h
    refine ⟨_, (C8.pss_cut (ps_set (i := 2) sc_bm.nd rfl (Or.inl rfl) (pe_op op_add (pe_fld (pv 1) rfl) (pe_fld (pv 0) rfl)))
  (C8.pss_cut (ps_set (i := 3) sc_bm.nd rfl (Or.inl rfl) (pe_op op_add (pv 2) (pe_callBfun cr_lcm rfl gLcm (pa_cons (pe_fld (pv 0) rfl) (pa_cons (pe_fld (pv 1) rfl) pa_nil)))))
  (pss_cons (ps_set (i := 4) sc_bm.nd rfl (Or.inl rfl) (pe_meth (pv 0) TC.cl fwM G_fw (hr.mono (by decide)) b_fw .nil pass0 (by exact (pa_cons (pv 3) pa_nil))))
  (pss_cons (ps_setLc (i := 5) (own := [("_", 8)]) rfl sc_bm.nd rfl rfl (sw_true rfl rfl rfl (by decide +kernel)) (pi_range1 rfl U.z_range (by exact (pa_cons (pv 3) pa_nil))) (blkOk_by (by kernel_rfl)) (fun s_ H_ C_ cl_ fp_ => (pg_name (i := 8) sc_bm.nd rfl (Or.inl rfl))) (fun s_ H_ C_ cl_ fp_ => pts_nil) (fun s_ H_ C_ cl_ fp_ => pe_bl))
  (C8.pss_cut (ps_set (i := 6) sc_bm.nd rfl (Or.inl rfl) (pe_op op_add (pe_fld (pv 1) rfl) (pe_op op_mod (pe_op op_sub (pe_fld (pv 1) rfl) (pe_fld (pv 1) rfl)) (pe_fld (pv 1) rfl))))
  (C8.pss_cut (ps_for PassesOwn.never rfl (pi_range3 rfl U.z_range (by exact (pa_cons (pv 6) (pa_cons (pv 3) (pa_cons (pe_fld (pv 1) rfl) pa_nil))))) (pg_name (i := 7) sc_bm.nd rfl (Or.inl rfl)) (pss_one (ps_asg (pe_cmpR op_eq (pe_ix ix_list (pv 4) (pv 7) (fun _ _ => rfl)) (pe_ix ix_list (pv 4) (pe_or (pe_meth (pv 1) PQ.icF.cl MlF G_lf (hr.mono (by decide)) b_lf .nil pass0 (by exact (pa_cons (pv 7) pa_nil))) (pe_meth (pv 1) PQ.icD.cl MlD G_ld (hr.mono (by decide)) b_ld .nil pass0 (by exact (pa_cons (pv 7) pa_nil)))) (fun _ _ => rfl)) (nomark _)) (pg_sub (pv 5) (pv 7) set_list))))
  (pss_one (ps_ret (pe_tup (pa_cons (pe_slice sl_list (pv 5) po_none (po_some (pv 2))) (pa_cons (pe_slice sl_list (pv 5) (po_some (pv 2)) po_none) pa_nil))))))))))), ?_⟩
    have sz : (10000 : Nat) ≤ sizeLine := by show 10000 ≤ 16777216; decide
    obtain ⟨b, p, ⟨dx, t, hx, ht⟩, fo, le⟩ := id st0
    obtain ⟨dy, hy⟩ := id ra0
    have r0 := wf.r0
    have r1 := wf.r1
    have m0 := wf.m0
    have m1 := wf.m1
    have n0 := wf.n0
    have l0 := wf.l0
    have ic : InsC K (d.cls CF CD) := by
      cases d
      · exact PQ.icF
      · exact PQ.icD
    have s0 : 0 ≤ d.start := by
      cases d with
      | fixed s r m l =>
        have n1 : (1 : Int) ≤ s := n0
        have l1 : (0 : Int) ≤ l := l0
        show 0 ≤ s + l
        omega
      | down t r m =>
        have n1 : (0 : Int) ≤ t := n0
        show 0 ≤ t + 1
        omega
    obtain ⟨st, est⟩ : ∃ st : Nat, d.start = st := ⟨d.start.toNat, by omega⟩
    obtain ⟨m, em⟩ : ∃ m : Nat, d.mod = m := ⟨d.mod.toNat, by omega⟩
    have lS : d.fs.lookup ("start" : Str) = some (V.int (st : Nat)) := by rw [fs_start, est]
    have lM : d.fs.lookup ("modulus" : Str) = some (V.int (m : Nat)) := by rw [fs_modulus, em]
    have lR := fs_rest d
    have mm6 : m ≤ 6 := by omega
    have mm1 : 1 ≤ m := by omega
    have p1 := fo.p1
    have lc : Nat.lcm p m ≤ p * m := PySem.W.mc_lcm_le p m
    have lc2 : p * m ≤ 20 * 6 := Nat.mul_le_mul (by omega) (by omega)
    obtain ⟨e, ee⟩ : ∃ e, e = st + b + Nat.lcm p m := ⟨_, rfl⟩
    have e9 : e ≤ 200 := by omega
    refine ⟨fun σ H' => σ = [some (.ref x), some (.ref y), some (.int ((st + b : Nat) : Int)), none, none, none, none, none, none] ∧ H' = H, ?_, fun σ2 H2 q2 => ?_⟩
    · exact ⟨_, rfl, y, _, dy, _, _, rfl, hy, ic.cl, ic.nStart, lS, _, rfl, x, CT, dx, _, _, rfl, hx, TC.cl, TC.nBegin, tfs_b _ _ _, _, _, rfl, rfl, rfl, rfl⟩
    obtain ⟨rfl, rfl⟩ := q2
    refine ⟨fun σ H' => σ = [some (.ref x), some (.ref y), some (.int ((st + b : Nat) : Int)), some (.int (e : Nat)), none, none, none, none, none] ∧ H' = H2, ?_, fun σ3 H3 q3 => ?_⟩
    · refine ⟨_, rfl, _, rfl, x, CT, dx, _, _, rfl, hx, TC.cl, TC.nPeriod, tfs_p _ _ _, _, rfl, y, _, dy, _, _, rfl, hy, ic.cl, ic.nModulus, lM, p, m, rfl, by omega, by omega, _, _, rfl, rfl, ?_, rfl⟩
      rw [ee]
      rfl
    obtain ⟨rfl, rfl⟩ := q3
    refine ⟨_, rfl, x, dx, _, rfl, hx, rfl, _, rfl, x, W, e, rfl, st0.wt, by omega, fun H4 tl s4 htl nl => ?_⟩
    refine ⟨_, rfl, _, rfl, by omega, by omega, fun D hD => ?_⟩
    rw [show (((e : Nat) : Int)).toNat = e from Int.toNat_natCast e]
    refine lc_range (lo := 0) (n := e) (fun i H' => Same H4 H' ∧ H' D = some (.lst ((List.replicate i false).map V.bl))) ⟨Same.new hD, upd_same⟩ (fun i H' hi q => ?_) (fun H5 q => ?_)
    · refine ⟨rfl, ?_⟩
      refine iteT (B := Same H4 H' ∧ H' D = some (.lst ((List.replicate (i + 1) false).map V.bl))) ?_
      refine ⟨_, q.2, by rw [List.length_map, List.length_replicate]; show _ < 16777216; omega, fun b o e => ?_, ?_⟩
      · have nb : b ≠ D := fun z => by rw [z, hD] at e; cases e
        rw [upd_ne nb]
        exact q.1 b o e
      · rw [upd_same, List.replicate_succ', List.map_append]
        rfl
    obtain ⟨s5, hD5⟩ := q
    have nD : D ≠ tl := fun z => by rw [z, htl] at hD; cases hD
    have s35 := s4.trans s5
    obtain ⟨f, ef⟩ : ∃ f : Nat, (f : Int) = st + (d.rest - st) % m := ⟨((st : Int) + (d.rest - st) % m).toNat, by
      have z := Int.emod_nonneg (d.rest - st) (show (m : Int) ≠ 0 by omega)
      omega⟩
    have f9 : f ≤ 900 := by
      have z := Int.emod_lt_of_pos (d.rest - st) (show (0 : Int) < m by omega)
      omega
    have fst_ : (st : Int) ≤ f := by
      have z := Int.emod_nonneg (d.rest - st) (show (m : Int) ≠ 0 by omega)
      omega
    have hy5 := s35 _ _ hy
    refine ⟨fun σ H' => σ = [some (.ref x), some (.ref y), some (.int ((st + b : Nat) : Int)), some (.int (e : Nat)), some (.ref tl), some (.ref D), some (.int (f : Nat)), none, none] ∧ H' = H5, ?_, fun σ6 H6 q6 => ?_⟩
    · refine ⟨_, rfl, y, _, dy, _, _, rfl, hy5, ic.cl, ic.nStart, lS, _, rfl, y, _, dy, _, _, rfl, hy5, ic.cl, ic.nRest, lR, _, rfl, y, _, dy, _, _, rfl, hy5, ic.cl, ic.nStart, lS, _, _, rfl, rfl, _, rfl, y, _, dy, _, _, rfl, hy5, ic.cl, ic.nModulus, lM, _, _, rfl, rfl, by omega, _, _, rfl, rfl, ?_, rfl⟩
      rw [ef]
      rfl
    obtain ⟨rfl, rfl⟩ := q6
    have ht6 : H6 tl = some (.lst ((nums W e).map V.int)) := s5 _ _ htl
    obtain ⟨n, rg, lt⟩ := rgc_m mm1 mm6 (show e ≤ 900 by omega) f9
    refine ⟨fun σ H' => ∃ (v7 : Option V) (ms : List Bool), σ = [some (.ref x), some (.ref y), some (.int ((st + b : Nat) : Int)), some (.int (e : Nat)), some (.ref tl), some (.ref D), some (.int (f : Nat)), v7, none] ∧ Mv D H6 H' ∧ H' D = some (.lst (ms.map V.bl)) ∧ ms.length = e ∧ Marks d W ms, ?_, fun σ7 H7 q7 => ?_⟩
    · refine ⟨_, rfl, _, rfl, _, rfl, y, _, dy, _, _, rfl, hy5, ic.cl, ic.nModulus, lM, f, e, m, n, rfl, rg, ?_⟩
      refine for_rangeC (lo := (f : Nat)) (c := (m : Nat)) (n := n) (fun i σ' H' => ∃ (v7 : Option V) (ms : List Bool), σ' = [some (.ref x), some (.ref y), some (.int ((st + b : Nat) : Int)), some (.int (e : Nat)), some (.ref tl), some (.ref D), some (.int (f : Nat)), v7, none] ∧ Mv D H6 H' ∧ H' D = some (.lst (ms.map V.bl)) ∧ ms.length = e ∧ Marks d W ms) ⟨_, _, rfl, fun _ _ _ z => z, hD5, List.length_replicate, marks0 e⟩ ?_ ?_
      · rintro i σ' H' hi ⟨v7, ms, rfl, mv, hd, ml, mk⟩
        have hlt := lt i hi
        obtain ⟨h, eh⟩ : ∃ h : Nat, h = f + i * m := ⟨_, rfl⟩
        have ev : (f : Int) + (i : Nat) * (m : Nat) = (h : Nat) := by rw [eh]; rfl
        rw [← eh] at hlt
        rw [ev]
        have sb : standsB d h = true := by
          unfold standsB
          have k := first_mod (st := st) (m := m) r0 (by omega) (i : Int)
          rw [← ef, ev] at k
          rw [est, em, k, decide_eq_true (show (st : Int) ≤ h by rw [← ev]; have z : (0 : Int) ≤ (i : Int) * (m : Nat) := Int.mul_nonneg (by omega) (by omega); omega), decide_eq_true rfl]
          rfl
        obtain ⟨l, el, ll, _⟩ := left_ok wf sb
        have hy6 := mv _ _ (fun z => by rw [z, hD5] at hy5; cases hy5) hy5
        have ht7 := mv _ _ (Ne.symm nD) ht6
        have atW_ : ∀ j : Nat, j < e → atI ((nums W e).map V.int) (j : Int) = some (V.int (W j)) := fun j hj => at_nat' (by
          unfold nums
          rw [List.getElem?_map, List.getElem?_map, List.getElem?_range hj]
          rfl)
        refine ⟨_, rfl, _, rfl, tl, _, _, _, rfl, rfl, SqL.of ht7, atW_ h hlt, _, rfl, ?_⟩
        have put : ∀ R : Hp → Prop, (∀ ms2 : List Bool, ms2.length = e → Marks d W ms2 → R (upd H' D (.lst (ms2.map V.bl)))) → rSetL (.ref D) (.int (h : Nat)) (.bl (decide (V.int (W h) = V.int (W l)))) H' R := fun R k => by
          refine ⟨D, _, _, h, rfl, rfl, hd, ixN_nat (by rw [List.length_map, ml]; exact hlt), ?_⟩
          have z := k (ms.set h (decide (V.int (W h) = V.int (W l)))) (by rw [List.length_set, ml]) (marks_put mk fun q => ⟨sb, l, el, V.int.inj (of_decide_eq_true q)⟩)
          rw [List.map_set] at z
          exact z
        have mvD : ∀ o, Mv D H6 (upd H' D o) := fun o b o2 nb z => by
          rw [upd_ne nb]
          exact mv b o2 nb z
        refine left_or rfl rfl ⟨dy, hy6⟩ el ?_
        exact ⟨tl, _, _, _, rfl, rfl, SqL.of ht7, atW_ l (by omega), rfl, _, rfl, _, rfl, put _ fun ms2 l2 k2 => ⟨_, ms2, rfl, mvD _, upd_same, l2, k2⟩⟩
      · rintro σ' H' ⟨v7, ms, e1, e2⟩
        exact ⟨v7, ms, e1, e2⟩
    obtain ⟨v7, ms, rfl, mv, hd, ml, mk⟩ := q7
    have sfin : Same H3 H7 := fun b o z => mv b o (fun q => by rw [q, un_same s4 hD] at z; cases z) (s35 b o z)
    refine ⟨_, rfl, _, rfl, _, rfl, D, _, rfl, SqL.of hd, fun u hu => ?_⟩
    have s8 := Same.new (o := .lst (cutV (ms.map V.bl) none (some ((st + b : Nat) : Int)))) hu
    refine ⟨_, rfl, _, rfl, _, rfl, D, _, rfl, SqL.of (s8 _ _ hd), fun v hv => ?_⟩
    have s9 := Same.new (o := .lst (cutV (ms.map V.bl) (some ((st + b : Nat) : Int)) none)) hv
    refine ⟨by show 2 ≤ sizeLine; omega, fun tt htt => ?_⟩
    have s10 := Same.new (o := .tup [.ref u, .ref v]) htt
    refine fin _ tt u v (ms.take (st + b)) (ms.drop (st + b)) (((sfin.trans s8).trans s9).trans s10) upd_same ?_ ?_ ?_ ?_
    · rw [s10 _ _ (s9 _ _ upd_same), cutV_take, List.map_take]
    · rw [s10 _ _ upd_same, cutV_drop, List.map_drop]
    · rw [List.take_append_drop]
      exact mk
    · rw [List.length_take, List.length_drop]
      omega

end
end Fz
set_option Elab.async false
set_option linter.all false
set_option maxRecDepth 100000
set_option maxHeartbeats 2000000
namespace Fz
open PySem PySem.Spec PyProof.Rows L2
section
variable {P : Program} {w : World} {K : PySem.W.Frag} {mg : Str → Option Value} {base : Heap}

structure TurC (K : PySem.W.Frag) (C : Addr) : Prop where
  cl : Cls K C
  nRule : NoAttr K C "rule"
  nHeap : NoAttr K C "heap"
  nLeft : NoAttr K C "left"
def tuf (y : Addr) (h l : Int) : List (Str × V) := putF "left" (.int l) (putF "heap" (.int h) (putF "rule" (.ref y) []))
def spKi (C : Addr) : Sp := fun vs H Q _ => ∃ (x dx y : Addr), vs = [.ref x, .ref y] ∧ H x = some (.ins C dx []) ∧ Q .non (upd H x (.ins C dx (putF "rule" (.ref y) [])))
def spTu (C : Addr) : Sp := fun vs H Q _ => ∃ (x dx y : Addr) (h l : Int), vs = [.ref x, .ref y, .int h, .int l] ∧ H x = some (.ins C dx []) ∧ Q .non (upd H x (.ins C dx (tuf y h l)))
def spBl (b : Bool) : Sp := fun vs H Q _ => vs.length = 1 ∧ Q (.bl b) H
abbrev s_ki : Stmt := inClass (topS 36) 0
theorem sc_ki : FnScope ["self", "rule"] ["self", "rule"] (defScope s_ki) := ⟨rfl, rfl, rfl, by decide +kernel, rfl, by decide +kernel, by decide +kernel⟩
theorem ok_ki {C f : Addr} {fd : FuncData} (F : Fun K "__init__" "Kept.__init__" s_ki f fd) (IC : TurC K C) : FnOk P w K mg base CX0 1 f fd ["self", "rule"] (spKi C) := by
  refine F.ok sc_ki (fun vs H Q E h => ?_) (fun cdv A outer s H vs Q E hr h => ?_)
  · obtain ⟨x, dx, y, rfl, _⟩ := h
    rfl
  · obtain ⟨x, dx, y, rfl, hx, fin⟩ := h
    exact ⟨_, (pss_one (ps_fld (pv 0) (pv 1) rfl)), _, rfl, _, rfl, x, C, dx, _, rfl, hx, IC.cl, IC.nRule, by decide, fin⟩
abbrev s_kb : Stmt := inClass (topS 36) 2
theorem sc_kb : FnScope ["self"] ["self"] (defScope s_kb) := ⟨rfl, rfl, rfl, by decide +kernel, rfl, by decide +kernel, by decide +kernel⟩
theorem ok_kb {f : Addr} {fd : FuncData} (F : Fun K "__bool__" "Kept.__bool__" s_kb f fd) : FnOk P w K mg base CX0 1 f fd ["self"] (spBl true) := by
  refine F.ok sc_kb (fun vs H Q E h => h.1) (fun cdv A outer s H vs Q E hr h => ?_)
  exact ⟨_, (pss_one (ps_ret pe_bl)), h.2⟩
abbrev s_tb : Stmt := inClass (topS 37) 2
theorem sc_tb : FnScope ["self"] ["self"] (defScope s_tb) := ⟨rfl, rfl, rfl, by decide +kernel, rfl, by decide +kernel, by decide +kernel⟩
theorem ok_tb {f : Addr} {fd : FuncData} (F : Fun K "__bool__" "Turned.__bool__" s_tb f fd) : FnOk P w K mg base CX0 1 f fd ["self"] (spBl false) := by
  refine F.ok sc_tb (fun vs H Q E h => h.1) (fun cdv A outer s H vs Q E hr h => ?_)
  exact ⟨_, (pss_one (ps_ret pe_bl)), h.2⟩
abbrev s_tu : Stmt := inClass (topS 37) 0
theorem sc_tu : FnScope ["self", "rule", "heap", "left"] ["self", "rule", "heap", "left"] (defScope s_tu) := ⟨rfl, rfl, rfl, by decide +kernel, rfl, by decide +kernel, by decide +kernel⟩
theorem ok_tu {C f : Addr} {fd : FuncData} (F : Fun K "__init__" "Turned.__init__" s_tu f fd) (IC : TurC K C) : FnOk P w K mg base CX0 1 f fd ["self", "rule", "heap", "left"] (spTu C) := by
  refine F.ok sc_tu (fun vs H Q E h => ?_) (fun cdv A outer s H vs Q E hr h => ?_)
  · obtain ⟨x, dx, y, h, l, rfl, _⟩ := h
    rfl
  · obtain ⟨x, dx, y, h, l, rfl, hx, fin⟩ := h
    refine ⟨_, (pss_cons (ps_fld (pv 0) (pv 1) rfl)
  (pss_cons (ps_fld (pv 0) (pv 2) rfl)
  (pss_one (ps_fld (pv 0) (pv 3) rfl)))), ?_⟩
    refine ⟨_, rfl, _, rfl, x, C, dx, _, rfl, hx, IC.cl, IC.nRule, by decide, ?_⟩
    refine ⟨_, rfl, _, rfl, x, C, dx, _, rfl, upd_same, IC.cl, IC.nHeap, by have z := length_putF "rule" (V.ref y) []; rw [List.length_nil] at z; omega, ?_⟩
    refine ⟨_, rfl, _, rfl, x, C, dx, _, rfl, upd_same, IC.cl, IC.nLeft, by have z := length_putF "rule" (V.ref y) []; have z2 := length_putF "heap" (V.int h) (putF "rule" (V.ref y) []); rw [List.length_nil] at z; omega, ?_⟩
    rw [upd_upd, upd_upd]
    exact fin
abbrev s_kw : Stmt := topS 38
theorem sc_kw : FnScope ["table", "rule", "marks", "ahead", "again", "heap", "worth"] ["table", "rule"] (defScope s_kw) := ⟨rfl, rfl, rfl, by decide +kernel, rfl, by decide +kernel, by decide +kernel⟩
/-- what keeps_winners found -/
def FoundAt (CK CU : Addr) (H : Hp) (z y : Addr) (W : Nat → Int) (d : RD) : Prop := (∃ dx fs, H z = some (.ins CK dx fs)) ∨ ∃ dx, ∃ h l : Nat, H z = some (.ins CU dx (tuf y h l)) ∧ standsB d h = true ∧ leftI d h = l ∧ W h = 0 ∧ W l = 0 ∧ (h : Int) ≤ great ∧ (l : Int) ≤ great
def spKw (CT CF CD CK CU : Addr) : Sp := fun vs H Q _ => ∃ (x y : Addr) (W : Nat → Int) (d : RD), vs = [.ref x, .ref y] ∧ SmT CT H x W ∧ RuleAt CF CD H y d ∧ d.Wf ∧ d.start ≤ 20 ∧ ∀ H' z, Same H H' → FoundAt CK CU H' z y W d → Q (.ref z) H'
theorem ok_kw {CT CF CD CK CU f fBm fFw fLF fLD fKi fTu : Addr} {fd fdBm fdFw fdLF fdLD fdKi fdTu : FuncData} (F : Fun K "keeps_winners" "keeps_winners" s_kw f fd) (U : Blt mg) (TC : TabC K CT) (PQ : PrgQ K CF CD) (Bm : Fun K "barred_marks" "barred_marks" s_bm fBm fdBm) (gBm : mg "barred_marks" = some (.ref fBm)) (b_bm : L2.Binds K fdBm ["table", "rule"] []) (G_bm : FnOk P w K mg base CX0 4 fBm fdBm ["table", "rule"] (spBm CT CF CD))
    (KC : TurC K CK) (KU : TurC K CU) (MkK : Mk K CK fKi) (gK : mg "Kept" = some (.ref CK)) (Ki : Fun K "__init__" "Kept.__init__" s_ki fKi fdKi) (b_ki : L2.Binds K fdKi ["self", "rule"] []) (MkU : Mk K CU fTu) (gU : mg "Turned" = some (.ref CU)) (Tu : Fun K "__init__" "Turned.__init__" s_tu fTu fdTu) (b_tu : L2.Binds K fdTu ["self", "rule", "heap", "left"] [])
    (fwM : Meth K CT "first_worths" fFw) (G_fw : FnOk P w K mg base CX0 2 fFw fdFw ["self", "count"] (spFw CT)) (b_fw : L2.Binds K fdFw ["self", "count"] [])
    (MlF : Meth K CF "left_from" fLF) (G_lf : FnOk P w K mg base CX0 1 fLF fdLF ["self", "heap"] (spLeftFrom CF CD)) (b_lf : L2.Binds K fdLF ["self", "heap"] []) (MlD : Meth K CD "left_from" fLD) (G_ld : FnOk P w K mg base CX0 1 fLD fdLD ["self", "heap"] (spLeftD CF CD)) (b_ld : L2.Binds K fdLD ["self", "heap"] []) : FnOk P w K mg base CX0 5 f fd ["table", "rule"] (spKw CT CF CD CK CU) := by
  have G_ki : FnOk P w K mg base CX0 1 fKi fdKi ["self", "rule"] (spKi CK) := ok_ki Ki KC
  have G_tu : FnOk P w K mg base CX0 1 fTu fdTu ["self", "rule", "heap", "left"] (spTu CU) := ok_tu Tu KU
  refine F.ok sc_kw (fun vs H Q E h => ?_) (fun cdv A outer s H vs Q E hr h => ?_)
  · obtain ⟨x, y, W, d, rfl, _⟩ := h
    rfl
  · obtain ⟨x, y, W, d, rfl, st0, ra0, wf, st20, fin⟩ := h
    refine ⟨_, (pss_cons (ps_asg (pe_call G_bm (hr.mono (by decide)) rfl gBm Bm.kp b_bm .nil pass0 (by exact (pa_cons (pv 0) (pa_cons (pv 1) pa_nil)))) (pg_tup rfl (pgs_cons (pg_name (i := 3) sc_kw.nd rfl (Or.inl rfl)) (pgs_cons (pg_name (i := 4) sc_kw.nd rfl (Or.inl rfl)) pgs_nil))))
  (pss_cons (ps_set (i := 2) sc_kw.nd rfl (Or.inl rfl) (pe_op op_cat (pv 3) (pv 4)))
  (C8.pss_cut (ps_for PassesOwn.never rfl (pi_enum (by rfl) U.z_enumerate (pa_cons (pe_meth (pv 0) TC.cl fwM G_fw (hr.mono (by decide)) b_fw .nil pass0 (by exact (pa_cons (pe_callB call_len rfl U.z_len (by decide +kernel) (pa_cons (pv 2) pa_nil)) pa_nil))) pa_nil)) (pg_tup rfl (pgs_cons (pg_name (i := 5) sc_kw.nd rfl (Or.inl rfl)) (pgs_cons (pg_name (i := 6) sc_kw.nd rfl (Or.inl rfl)) pgs_nil))) (pss_one (ps_if (PW.pt (pw_and (pt_cmpR op_eq (pv 6) pe_int (nomark _)) (pw_and1 (pt_val (pe_ix ix_list (pv 2) (pv 5) (fun _ _ => rfl)))))) (pss_one (ps_ret (pe_box (pe_make MkU G_tu (hr.mono (by decide)) rfl gU b_tu .nil pass0 (by exact (pa_cons (pv 1) (pa_cons (pv 5) (pa_cons (pe_or (pe_meth (pv 1) PQ.icF.cl MlF G_lf (hr.mono (by decide)) b_lf .nil pass0 (by exact (pa_cons (pv 5) pa_nil))) (pe_meth (pv 1) PQ.icD.cl MlD G_ld (hr.mono (by decide)) b_ld .nil pass0 (by exact (pa_cons (pv 5) pa_nil)))) pa_nil)))))))) pss_nil)))
  (pss_one (ps_ret (pe_box (pe_make MkK G_ki (hr.mono (by decide)) rfl gK b_ki .nil pass0 (by exact (pa_cons (pv 1) pa_nil))))))))), ?_⟩
    have sz : (10000 : Nat) ≤ sizeLine := by show 10000 ≤ 16777216; decide
    refine ⟨_, rfl, _, rfl, x, y, W, d, rfl, st0, ra0, wf, st20, fun H1 t la lb as bs s1 ht ha hb mk few => ?_⟩
    refine ⟨t, _, rfl, SqT.of ht, rfl, _, _, rfl, _, _, rfl, rfl, ?_⟩
    refine ⟨_, rfl, _, rfl, la, lb, _, _, rfl, rfl, ha, hb, by rw [List.length_map, List.length_map]; omega, fun lm hlm => ?_⟩
    have s2 := Same.new (o := .lst (as.map V.bl ++ bs.map V.bl)) hlm
    obtain ⟨ms, ems⟩ : ∃ ms, ms = as ++ bs := ⟨_, rfl⟩
    have ml : ms.length ≤ 900 := by rw [ems, List.length_append]; exact few
    have hm2 : (upd H1 lm (.lst (as.map V.bl ++ bs.map V.bl))) lm = some (.lst (ms.map V.bl)) := by rw [upd_same, ems, List.map_append]
    rw [← ems] at mk
    obtain ⟨H2, eH2⟩ : ∃ H2, H2 = upd H1 lm (.lst (as.map V.bl ++ bs.map V.bl)) := ⟨_, rfl⟩
    rw [← eH2] at s2 hm2 ⊢
    have s02 := s1.trans s2
    refine ⟨fun σ H' => ∃ v5 v6 : Option V, σ = [some (.ref x), some (.ref y), some (.ref lm), some (.ref la), some (.ref lb), v5, v6] ∧ Same H H', ?_, fun σ3 H3 q3 => ?_⟩
    · have st2 := st0.same s02
      obtain ⟨b, p, ⟨dx, tx, hx, _⟩, _⟩ := id st2
      have lM : LenV K (.ref lm) H2 ms.length := by
        have q := SeqAt2.len (K := K) (SqB.ii (t := false) (show SqB false H2 lm (ms.map V.bl) from hm2))
        rw [List.length_map] at q
        exact q
      refine ⟨_, rfl, x, dx, _, rfl, hx, rfl, _, rfl, _, _, rfl, lM, x, W, ms.length, rfl, st2.wt, ml, fun H4 tl s4 htl nl => ?_⟩
      have s04 := s02.trans s4
      refine ⟨tl, _, rfl, SqL.of htl, ?_⟩
      refine for_it (walk_enum (K := K) (a := tl) (xs := (nums W ms.length).map V.int)) (fun i σ' H' => ∃ v5 v6, σ' = [some (.ref x), some (.ref y), some (.ref lm), some (.ref la), some (.ref lb), v5, v6] ∧ Same H4 H') ⟨none, none, rfl, fun _ _ z => z⟩ ?_ ?_ ?_
      · rintro i σ' H' _ ⟨v5, v6, rfl, s⟩
        exact SqL.of (s _ _ htl)
      · rintro i x2 σ' H' H'' hi ⟨v5, v6, rfl, s⟩ ⟨t2, y1, y2, rfl, ht2, rfl, e1, e2⟩
        cases e1
        rw [List.length_map, nums_len] at hi
        have hi2 : i < ms.length := hi
        have e3 : ((nums W ms.length).map V.int)[i]? = some (V.int (W i)) := by
          unfold nums
          rw [List.getElem?_map, List.getElem?_map, List.getElem?_range hi2]
          rfl
        replace e2 : ((nums W ms.length).map V.int)[i]? = some y2 := e2
        rw [e3] at e2
        cases e2
        have sn := Same.new (o := .tup [V.int (i : Nat), .int (W i)]) ht2
        have s5 := s04.trans (s.trans sn)
        have hm5 := sn _ _ (s _ _ (s4 _ _ hm2))
        refine ⟨t2, _, rfl, SqT.of upd_same, rfl, ?_⟩
        refine ⟨_, _, rfl, _, _, rfl, rfl, ?_⟩
        refine ⟨_, rfl, rfl, _, rfl, ?_⟩
        refine ite2 (fun c => ?_) (fun c => ?_)
        · have w0 : W i = 0 := V.int.inj (of_decide_eq_true c)
          refine ⟨_, rfl, _, rfl, lm, _, _, .bl ms[i], rfl, rfl, SqL.of hm5, at_nat' (by rw [List.getElem?_map, List.getElem?_eq_getElem hi2]; rfl), _, rfl, ?_⟩
          cases eb : ms[i] with
          | false => exact iteF ⟨_, _, rfl, s.trans sn⟩
          | true =>
            refine iteT ?_
            obtain ⟨sb, l, el, wl⟩ := mk i (by rw [List.getElem?_eq_getElem hi2, eb])
            obtain ⟨l', el', _, ll⟩ := left_ok wf sb
            have ll2 : l = l' := Int.ofNat.inj (el.symm.trans el')
            subst ll2
            have big : (900 : Int) ≤ great := by decide
            obtain ⟨dy, hy⟩ := ra0.same s5
            have done : ∀ z dz, upd H' t2 (.tup [V.int (i : Nat), .int (W i)]) z = none → upd H' t2 (.tup [V.int (i : Nat), .int (W i)]) dz = none → Q (.ref z) (upd (upd (upd (upd H' t2 (.tup [V.int (i : Nat), .int (W i)])) dz (.own z)) z (.ins CU dz [])) z (.ins CU dz (tuf y i l))) := fun z dz hz hdz =>
              fin _ z (s5.trans (made_same hz hdz fun b o nb q => by rw [upd_ne nb]; exact q)) (.inr ⟨dz, i, l, upd_same, sb, el, w0, by rw [← wl]; exact w0, by omega, by omega⟩)
            refine ⟨_, rfl, _, rfl, ?_⟩
            refine left_or rfl rfl ⟨dy, hy⟩ el ?_
            exact fun z dz hz hdz ne => ⟨z, dz, y, i, l, rfl, upd_same, rfl, done z dz hz hdz⟩
        · exact iteF ⟨_, _, rfl, s.trans sn⟩
      · rintro σ' H' ⟨v5, v6, rfl, s⟩
        exact ⟨v5, v6, rfl, s04.trans s⟩
    obtain ⟨v5, v6, rfl, s3⟩ := q3
    exact ⟨_, rfl, fun z dz hz hdz ne => ⟨z, dz, y, rfl, upd_same, rfl, fin _ z (s3.trans (made_same hz hdz fun b o nb q => by rw [upd_ne nb]; exact q)) (.inl ⟨dz, _, upd_same⟩)⟩⟩

end
end Fz
set_option Elab.async false
set_option linter.all false
set_option maxRecDepth 100000
set_option maxHeartbeats 2000000
namespace Fz
open PySem PySem.Spec PyProof.Rows L2
section
variable {P : Program} {w : World} {K : PySem.W.Frag} {mg : Str → Option Value} {base : Heap}

abbrev s_sh : Stmt := topS 39
theorem sc_sh : FnScope ["table", "rule", "heap", "left", "wanted"] ["table", "rule", "heap", "left"] (defScope s_sh) := ⟨rfl, rfl, rfl, by decide +kernel, rfl, by decide +kernel, by decide +kernel⟩
/-- shows_turned's answer -/
def showsB (W : Nat → Int) (d : RD) : V → V → Bool
  | .int h, .int l => decide (0 ≤ h) && decide (h ≤ great) && standsB d h && decide (l = leftI d h) && decide (W h.toNat = 0) && decide (W l.toNat = 0)
  | _, _ => false
def spSh (K : PySem.W.Frag) (CT CF CD : Addr) : Sp := fun vs H Q _ => ∃ (x y : Addr) (W : Nat → Int) (d : RD) (u v : V), vs = [.ref x, .ref y, u, v] ∧ SmT CT H x W ∧ RuleAt CF CD H y d ∧ d.Wf ∧ IntTy K H u ∧ IntTy K H v ∧ Q (.bl (showsB W d u v)) H
theorem stands_left {d : RD} (wf : d.Wf) {h : Int} (h0 : 0 ≤ h) (sb : standsB d h = true) : 0 ≤ leftI d h ∧ leftI d h ≤ h := by
  obtain ⟨l, e, _, le⟩ := left_ok (h := h.toNat) wf (by rw [show ((h.toNat : Nat) : Int) = h by omega]; exact sb)
  rw [show ((h.toNat : Nat) : Int) = h by omega] at e le
  rw [e]
  exact ⟨by omega, le⟩
theorem shows_eq {W : Nat → Int} {d : RD} {h l : Int} (h0 : 0 ≤ h) (h1 : h ≤ great) (sb : standsB d h = true) (e : l = leftI d h) : showsB W d (.int h) (.int l) = (decide (W h.toNat = 0) && decide (W l.toNat = 0)) := by
  show (decide (0 ≤ h) && decide (h ≤ great) && standsB d h && decide (l = leftI d h) && decide (W h.toNat = 0) && decide (W l.toNat = 0)) = _
  rw [decide_eq_true h0, decide_eq_true h1, sb, decide_eq_true e]
  rfl
theorem dec_V {a b : Int} : decide (V.int a = V.int b) = decide (a = b) := by
  by_cases c : a = b
  · rw [decide_eq_true c, c, decide_eq_true rfl]
  · rw [decide_eq_false c, decide_eq_false fun z => c (V.int.inj z)]
theorem ok_sh {CT CF CD f fN fSt fGi fLF fLD : Addr} {tBG : Tok} {fd fdN fdSt fdGi fdLF fdLD : FuncData} (F : Fun K "shows_turned" "shows_turned" s_sh f fd) (U : Blt mg) (PQ : PrgQ K CF CD) (N : Fun K "is_number" "is_number" s_is_number fN fdN) (gN : mg "is_number" = some (.ref fN)) (b_num : L2.Binds K fdN ["value", "least", "most"] []) (gBig : mg "BIGGEST" = some (.int great tBG))
    (St : Fun K "stands" "stands" s_st fSt fdSt) (gSt : mg "stands" = some (.ref fSt)) (b_st : L2.Binds K fdSt ["rule", "heap"] [])
    (Gi : Fun K "__getitem__" "Table.__getitem__" s_gi fGi fdGi) (oGi : PySem.W.findIn K (.ref CT) "__getitem__" = some (some (.ref fGi))) (iGi : PySem.W.isFn K (.ref fGi) = true) (G_gi : FnOk P w K mg base CX0 3 fGi fdGi ["self", "at"] (spGi CT)) (b_gi : L2.Binds K fdGi ["self", "at"] [])
    (MlF : Meth K CF "left_from" fLF) (G_lf : FnOk P w K mg base CX0 1 fLF fdLF ["self", "heap"] (spLeftFrom CF CD)) (b_lf : L2.Binds K fdLF ["self", "heap"] []) (MlD : Meth K CD "left_from" fLD) (G_ld : FnOk P w K mg base CX0 1 fLD fdLD ["self", "heap"] (spLeftD CF CD)) (b_ld : L2.Binds K fdLD ["self", "heap"] []) : FnOk P w K mg base CX0 5 f fd ["table", "rule", "heap", "left"] (spSh K CT CF CD) := by
  have G_num : FnOk P w K mg base CX0 1 fN fdN ["value", "least", "most"] (spNumX K) := ok_is_numberX N U
  have G_st : FnOk P w K mg base CX0 1 fSt fdSt ["rule", "heap"] (spStands CF CD) := ok_st St PQ
  refine F.ok sc_sh (fun vs H Q E h => ?_) (fun cdv A outer s H vs Q E hr h => ?_)
  · obtain ⟨x, y, W, d, u, v, rfl, _⟩ := h
    rfl
  · obtain ⟨x, y, W, d, u, v, rfl, st0, ra0, wf, ku, kv, fin⟩ := h
    refine ⟨_, (pss_cons (ps_if (PW.pt (pw_or (pt_not (pt_val (pe_call G_num (hr.mono (by decide)) rfl gN N.kp b_num .nil pass0 (by exact (pa_cons (pv 2) (pa_cons pe_int (pa_cons (pe_glob (v := .int great) rfl gBig ⟨tBG, rfl⟩) pa_nil))))))) (pw_or1 (pt_not (pt_val (pe_call G_st (hr.mono (by decide)) rfl gSt St.kp b_st .nil pass0 (by exact (pa_cons (pv 1) (pa_cons (pv 2) pa_nil))))))))) (pss_one (ps_ret pe_bl)) pss_nil)
  (pss_cons (ps_set (i := 4) sc_sh.nd rfl (Or.inl rfl) (pe_or (pe_meth (pv 1) PQ.icF.cl MlF G_lf (hr.mono (by decide)) b_lf .nil pass0 (by exact (pa_cons (pv 2) pa_nil))) (pe_meth (pv 1) PQ.icD.cl MlD G_ld (hr.mono (by decide)) b_ld .nil pass0 (by exact (pa_cons (pv 2) pa_nil)))))
  (pss_one (ps_ret (pe_and (pe_call G_num (hr.mono (by decide)) rfl gN N.kp b_num .nil pass0 (by exact (pa_cons (pv 3) (pa_cons (pv 4) (pa_cons (pv 4) pa_nil))))) (pe_and (pe_cmpR op_eq (pe_ixO (pv 0) (pv 2) oGi (fn_in Gi) iGi G_gi b_gi (hr.mono (by decide)) pass0) pe_int (nomark _)) (pe_one (pe_cmpR op_eq (pe_ixO (pv 0) (pv 3) oGi (fn_in Gi) iGi G_gi b_gi (hr.mono (by decide)) pass0) pe_int (nomark _))))))))), ?_⟩
    obtain ⟨b, p, ⟨dx, tx, hx, _⟩, _⟩ := id st0
    obtain ⟨dy, hy⟩ := id ra0
    refine ⟨_, rfl, u, 0, great, rfl, ku, _, rfl, ?_⟩
    cases e1 : numV 0 great u with
    | false =>
      refine iteT ?_
      have e : showsB W d u v = false := by
        cases u with
        | int h =>
          cases v with
          | int l =>
            have z : (decide (0 ≤ h) && decide (h ≤ great)) = false := e1
            show (decide (0 ≤ h) && decide (h ≤ great) && _ && _ && _ && _) = false
            rw [z]
            rfl
          | _ => rfl
        | _ => rfl
      rw [e] at fin
      exact fin
    | true =>
      refine iteF ?_
      obtain ⟨h, rfl, h0, h1⟩ := numV_is e1
      refine ⟨_, rfl, _, rfl, y, d, h, rfl, ra0, wf, _, rfl, ?_⟩
      cases e2 : standsB d h with
      | false =>
        refine iteT ?_
        have e : showsB W d (.int h) v = false := by
          cases v with
          | int l =>
            show (decide (0 ≤ h) && decide (h ≤ great) && standsB d h && _ && _ && _) = false
            rw [e2, Bool.and_false]
            rfl
          | _ => rfl
        rw [e] at fin
        exact fin
      | true =>
        refine iteF ?_
        obtain ⟨l0, l1⟩ := stands_left wf h0 e2
        have atW_ : ∀ (z : Int) (R : VK), 0 ≤ z → z ≤ great → R (.int (W z.toNat)) H → spGi CT [.ref x, .int z] H R E0 := fun z R a c k => ⟨x, W, z.toNat, by rw [show ((z.toNat : Nat) : Int) = z by omega], st0.wt, by omega, k⟩
        refine left_or rfl rfl ra0 rfl ?_
        refine ⟨_, rfl, _, rfl, _, rfl, v, (leftI d h), (leftI d h), rfl, kv, _, rfl, ?_⟩
        cases e3 : numV (leftI d h) (leftI d h) v with
        | false =>
          refine iteF ?_
          have e : showsB W d (.int h) v = false := by
            cases v with
            | int l =>
              have ne : ¬ l = (leftI d h) := fun z => by
                rw [numV_of (show (leftI d h) ≤ l by omega) (show l ≤ (leftI d h) by omega)] at e3
                cases e3
              show (decide (0 ≤ h) && decide (h ≤ great) && standsB d h && decide (l = (leftI d h)) && _ && _) = false
              rw [decide_eq_false ne, Bool.and_false]
              rfl
            | _ => rfl
          rw [e] at fin
          exact fin
        | true =>
          refine iteT ?_
          obtain ⟨l, rfl, la, lb⟩ := numV_is e3
          have lw : l = (leftI d h) := by omega
          rw [shows_eq h0 h1 e2 lw] at fin
          refine ⟨_, rfl, _, rfl, x, dx, _, rfl, hx, atW_ h _ h0 h1 ?_⟩
          refine ⟨rfl, _, rfl, ?_⟩
          refine ite2 (fun c => ?_) (fun c => ?_)
          · rw [dec_V] at c
            rw [c, Bool.true_and] at fin
            refine ⟨_, rfl, _, rfl, x, dx, _, rfl, hx, atW_ l _ (by rw [lw]; exact l0) (by rw [lw]; exact Int.le_trans l1 h1) ?_⟩
            refine ⟨rfl, ?_⟩
            rw [dec_V]
            exact fin
          · rw [dec_V] at c
            rw [Bool.eq_false_iff.mpr c, Bool.false_and] at fin
            exact fin

end
end Fz
set_option Elab.async false
set_option linter.all false
set_option maxRecDepth 100000
set_option maxHeartbeats 2000000
namespace Fz
open PySem PySem.Spec PyProof.Rows L2
section
variable {P : Program} {w : World} {K : PySem.W.Frag} {mg : Str → Option Value} {base : Heap}

abbrev s_tab : Stmt := topS 58
theorem sc_tab : FnScope ["_law_pen_here", "_law_numbers_so", "_law_begin_so", "_law_round_so", "_law_k"] ["_law_pen_here"] (defScope s_tab) := ⟨rfl, rfl, rfl, by decide +kernel, rfl, by decide +kernel, by decide +kernel⟩
theorem int_neP {n : Nat} {H : Hp} {p q l : Addr} {ns : List Int} (pen : PenAt n H p q) (h : H l = some (.lst (ns.map V.int))) : l ≠ p := fun z => by
  obtain ⟨ks, sp, gr, hp, _⟩ := pen
  rw [z, hp] at h
  cases ns with
  | nil => cases h
  | cons a r => cases h
section
variable {CT x dx l : Addr} {H : Hp} {a n : Nat} {ai ni : Int} {row : List Int} {E : XK} {σ : L2.St} {Q : VK} {ta : TA}
/-- Table(a, n, row) -/
theorem tab_box {H1 : Hp} (args : ∀ R : List V → Hp → Prop, R [.int ai, .int ni, .ref l] H1 → ta σ H R) (ea : ai = a) (en : ni = n) (hl : H1 l = some (.lst (row.map V.int))) (t : Told row a n) (z : row[0]? = some 0) (a1 : a ≤ 1000) (n1 : n ≤ 1000)
    (fin : ∀ H' x b p, Same H1 H' → Form (atW row a n) b p → b + p ≤ a + n → TabAt CT H' x b p (nums (atW row a n) (b + p)) → Q (.ref x) H') : Box (tMake CT (spTableV CT) [] E ta) σ H Q := by
  subst ea en
  exact ⟨args _ fun x dx hx hdx _ => ⟨x, dx, l, a, n, row, rfl, upd_same, up_made (C := CT) hx hdx _ _ hl, t, z, a1, n1, fun H' b p f le mv ⟨t', h1, h2⟩ => ⟨rfl, fin H' x b p (made_same hx hdx mv) f le ⟨dx, t', h1, h2⟩⟩⟩⟩
end
/-- a case of the law: a table, where its row comes again, the row -/
def CaseAt (CT : Addr) (H : Hp) (c : Addr) (a : Nat) (ns : List Int) : Prop := ∃ x l, H c = some (.tup [.ref x, .int (a : Nat), .ref l]) ∧ SmT CT H x (atW ns a (ns.length - a)) ∧ H l = some (.lst (ns.map V.int))
theorem CaseAt.mv {CT : Addr} {H H' : Hp} {c p q : Addr} {n a : Nat} {ns : List Int} (h : CaseAt CT H c a ns) (pen : PenAt n H p q) (m : Mv p H H') : CaseAt CT H' c a ns :=
  let ⟨x, l, h1, h2, h3⟩ := h; ⟨x, l, tup_mvN h1 pen m.toN, h2.mv pen m, m _ _ (int_neP pen h3) h3⟩
theorem CaseAt.same {CT : Addr} {H H' : Hp} {c : Addr} {a : Nat} {ns : List Int} (h : CaseAt CT H c a ns) (s : Same H H') : CaseAt CT H' c a ns :=
  let ⟨x, l, h1, h2, h3⟩ := h; ⟨x, l, s _ _ h1, h2.same s, s _ _ h3⟩
structure CaseOk (a : Nat) (ns : List Int) : Prop where
  told : Told ns a (ns.length - a)
  z0 : ns[0]? = some 0
  few : ns.length ≤ 11
def spTab (CT : Addr) : Sp := fun vs H Q _ => ∃ (n : Nat) (p q : Addr), vs = [.ref p] ∧ PenAt n H p q ∧ n < 90000 ∧ ∀ H' c a ns, PenAt (n + 12) H' p q → Mv p H H' → CaseAt CT H' c a ns → CaseOk a ns → Q (.ref c) H'
theorem ok_tab {CT f fD fP fTi : Addr} {fd fdD fdP fdTi : FuncData} (F : Fun K "_law_table" "_law_table" s_tab f fd) (U : Blt mg) (D : Fun K "_law_draw" "_law_draw" s_draw fD fdD) (gD : mg "_law_draw" = some (.ref fD)) (b_draw : L2.Binds K fdD ["_law_pen_here", "_law_many"] [])
    (Pk : Fun K "_law_pick" "_law_pick" s_pick fP fdP) (gP : mg "_law_pick" = some (.ref fP)) (b_pick : L2.Binds K fdP ["_law_pen_here", "_law_some"] [])
    (G_ti : FnOk P w K mg base CX0 5 fTi fdTi ["self", "begin", "period", "numbers"] (spTableV CT)) (MkT : Mk K CT fTi) (gTab : mg "Table" = some (.ref CT)) (b_ti : L2.Binds K fdTi ["self", "begin", "period", "numbers"] []) : FnOk P w K mg base CX0 7 f fd ["_law_pen_here"] (spTab CT) := by
  have G_draw : FnOk P w K mg base CX0 1 fD fdD ["_law_pen_here", "_law_many"] spDraw := ok_draw D U
  have G_pick : FnOk P w K mg base CX0 2 fP fdP ["_law_pen_here", "_law_some"] (spPick K) := ok_pick Pk U D gD b_draw
  refine F.ok sc_tab (fun vs H Q E h => ?_) (fun cdv A outer s H vs Q E hr h => ?_)
  · obtain ⟨n, p, q, rfl, _⟩ := h
    rfl
  · obtain ⟨n, p, q, rfl, hp, hn, fin⟩ := h
    refine ⟨_, (pss_cons (ps_par (i := 2) (j := 3) (by rfl) sc_tab.nd rfl rfl (by decide) rfl rfl (pa_cons (pe_call G_draw (hr.mono (by decide)) rfl gD D.kp b_draw .nil pass0 (by exact (pa_cons (pv 0) (pa_cons pe_int pa_nil)))) (pa_cons (pe_op op_add pe_int (pe_call G_draw (hr.mono (by decide)) rfl gD D.kp b_draw .nil pass0 (by exact (pa_cons (pv 0) (pa_cons pe_int pa_nil))))) pa_nil)) (by rfl))
  (pss_cons (ps_set (i := 1) sc_tab.nd rfl (Or.inl rfl) (pe_op op_cat (pe_lst (pa_cons pe_int pa_nil)) (pe_lc (own := [("_law_k", 4)]) rfl sc_tab.nd (pi_range1 rfl U.z_range (by exact (pa_cons (pe_op op_sub (pe_op op_add (pv 2) (pv 3)) pe_int) pa_nil))) (blkOk_by (by kernel_rfl)) (fun s_ H_ C_ cl_ fp_ => (pg_name (i := 4) sc_tab.nd rfl (Or.inl rfl))) (fun s_ H_ C_ cl_ fp_ => pts_nil) (fun s_ H_ C_ cl_ fp_ => (pe_call G_pick (hr.mono (by decide)) rfl gP Pk.kp b_pick .nil pass0 (by exact (pa_cons (pv 0) (pa_cons (pe_lst (pa_cons pe_int (pa_cons pe_int (pa_cons pe_int (pa_cons pe_int pa_nil))))) pa_nil))))))))
  (pss_one (ps_ret (pe_tup (pa_cons (pe_box (pe_make MkT G_ti (hr.mono (by decide)) rfl gTab b_ti .nil pass0 (by exact (pa_cons (pv 2) (pa_cons (pv 3) (pa_cons (pv 1) pa_nil)))))) (pa_cons (pv 2) (pa_cons (pv 1) pa_nil)))))))), ?_⟩
    have sz : (10000 : Nat) ≤ sizeLine := by show 10000 ≤ 16777216; decide
    refine ⟨_, rfl, n, p, q, 5, rfl, hp, by omega, by decide, small_log (by decide) (by decide), fun H1 a p1 m1 a0 a1 => ?_⟩
    refine ⟨_, rfl, n + 1, p, q, 6, rfl, p1, by omega, by decide, small_log (by decide) (by decide), fun H2 r p2 m2 r0 r1 => ?_⟩
    obtain ⟨a, rfl⟩ := Int.eq_ofNat_of_zero_le a0
    obtain ⟨r, rfl⟩ := Int.eq_ofNat_of_zero_le r0
    refine ⟨_, _, rfl, rfl, _, _, rfl, ?_⟩
    refine ⟨by show 1 ≤ sizeLine; omega, fun l0 hl0 => ?_⟩
    refine ⟨_, rfl, _, rfl, _, _, rfl, rfl, _, _, rfl, rfl, _, rfl, by omega, by omega, fun D hD => ?_⟩
    have en : ((a : Int) + (1 + (r : Int)) - 1).toNat = a + r := by omega
    have p2' := p2.new (o := .lst [.int 0]) hl0
    have m2' := (m1.trans m2).trans (Mv.new (p := p) (o := .lst [.int 0]) hl0)
    have Dp := p2'.fresh hD
    have Dl : D ≠ l0 := fun z => by rw [z, upd_same] at hD; cases hD
    rw [show ((((a : Nat) : Int) + (1 + ((r : Nat) : Int)) - 1)).toNat = a + r from en]
    refine lc_range (lo := 0) (n := a + r) (fun i H' => ∃ xs : List Int, PenAt (n + 2 + i) H' p q ∧ Mv p (upd H2 l0 (.lst [.int 0])) H' ∧ H' D = some (.lst (xs.map V.int)) ∧ xs.length = i ∧ ∀ z ∈ xs, 0 ≤ z ∧ z ≤ 2) ⟨[], p2'.new hD, Mv.new hD, upd_same, rfl, fun z hz => by cases hz⟩ (fun i H' hi q5 => ?_) (fun H' q5 => ?_)
    · obtain ⟨xs, pi, mi, hd, xl, fit⟩ := q5
      refine ⟨rfl, ?_⟩
      refine iteT (B := ∃ xs : List Int, PenAt (n + 2 + (i + 1)) H' p q ∧ Mv p (upd H2 l0 (.lst [.int 0])) H' ∧ H' D = some (.lst (xs.map V.int)) ∧ xs.length = i + 1 ∧ ∀ z ∈ xs, 0 ≤ z ∧ z ≤ 2) ?_
      refine ⟨_, rfl, by show 4 ≤ sizeLine; omega, fun lk hlk => ⟨n + 2 + i, p, q, lk, _, rfl, pi.new hlk, by omega, (pi.fresh hlk).1, upd_same, by show 0 < 4; decide, by show 4 ≤ 1000; decide, fun H5 e p6 m6 he => ?_⟩⟩
      obtain ⟨z, rfl, z0, z1⟩ : ∃ z, e = .int z ∧ 0 ≤ z ∧ z ≤ 2 := by
        simp only [List.mem_cons, List.not_mem_nil, or_false] at he
        rcases he with rfl | rfl | rfl | rfl <;> exact ⟨_, rfl, by decide, by decide⟩
      have Dk : D ≠ lk := fun z => by rw [← z, hd] at hlk; cases hlk
      have mk := (Mv.new (p := p) hlk).trans m6
      refine ⟨_, mk _ _ Dp.1 hd, by rw [List.length_map, xl]; omega, xs ++ [z], p6.put Dp.1 Dp.2, fun b o nb e => ?_, by rw [upd_same, List.map_append]; rfl, by rw [List.length_append, xl]; rfl, fun y hy => ?_⟩
      · have ne : b ≠ D := fun z => by rw [z, hD] at e; cases e
        rw [upd_ne ne]
        exact mk _ _ nb (mi _ _ nb e)
      · rcases List.mem_append.mp hy with h1 | h1
        · exact fit y h1
        · rw [List.mem_singleton.mp h1]
          exact ⟨z0, z1⟩
    · obtain ⟨xs, p3, m3, hd, xl, fit⟩ := q5
      have hl0' := m3 _ _ (p2.fresh hl0).1 (upd_same (H := H2) (a := l0) (o := .lst [.int 0]))
      refine ⟨l0, D, _, _, rfl, rfl, hl0', hd, by rw [List.length_map, xl]; show 1 + _ ≤ _; omega, fun l hl => ?_⟩
      have p4 := p3.new (o := .lst ([V.int 0] ++ xs.map V.int)) hl
      have m4 := (m2'.trans m3).trans (Mv.new (p := p) (o := .lst ([V.int 0] ++ xs.map V.int)) hl)
      have told : Told (0 :: xs) a (1 + r) := ⟨by rw [List.length_cons, xl]; omega, by omega, fun z hz => by
        rcases List.mem_cons.mp hz with rfl | hz
        · exact ⟨by decide, by decide⟩
        · have q := fit z hz
          exact ⟨q.1, by omega⟩⟩
      have eq_ : (0 :: xs).length - a = 1 + r := by rw [List.length_cons, xl]; omega
      have hrow : (upd H' l (.lst ([V.int 0] ++ xs.map V.int))) l = some (.lst ((0 :: xs).map V.int)) := upd_same
      refine tab_box (fun R k => ⟨_, rfl, _, rfl, _, rfl, k⟩) (a := a) (n := 1 + r) rfl (by omega) hrow told rfl (by omega) (by omega) fun H5 x b pp s5 fo le at5 => ?_
      refine ⟨_, rfl, _, rfl, by show 3 ≤ sizeLine; omega, fun t ht => ?_⟩
      have s6 := s5.trans (Same.new (o := .tup [V.ref x, .int (a : Nat), .ref l]) ht)
      refine fin _ t a (0 :: xs) ((p4.same s6).more (by omega)) (m4.trans (Same.mv s6 p)) ⟨x, l, upd_same, ?_, s6 _ _ hrow⟩ ⟨by rw [eq_]; exact told, rfl, by rw [List.length_cons, xl]; omega⟩
      rw [eq_]
      exact ⟨b, pp, at5.same (Same.new ht), fo, by omega⟩

abbrev s_wor : Stmt := topS 59
theorem sc_wor : FnScope ["_law_begin_so", "_law_numbers_so", "_law_spot"] ["_law_begin_so", "_law_numbers_so", "_law_spot"] (defScope s_wor) := ⟨rfl, rfl, rfl, by decide +kernel, rfl, by decide +kernel, by decide +kernel⟩
def spWor : Sp := fun vs H Q _ => ∃ (a : Nat) (l : Addr) (ns : List Int) (h : Int), vs = [.int (a : Nat), .ref l, .int h] ∧ 0 ≤ h ∧ H l = some (.lst (ns.map V.int)) ∧ a < ns.length ∧ ns.length ≤ 1000 ∧ Q (.int (atW ns a (ns.length - a) h.toNat)) H
theorem ok_worth {f : Addr} {fd : FuncData} (F : Fun K "_law_worth" "_law_worth" s_wor f fd) (U : Blt mg) : FnOk P w K mg base CX0 1 f fd ["_law_begin_so", "_law_numbers_so", "_law_spot"] spWor := by
  refine F.ok sc_wor (fun vs H Q E h => ?_) (fun cdv A outer s H vs Q E hr h => ?_)
  · obtain ⟨a, l, ns, h, rfl, _⟩ := h
    rfl
  · obtain ⟨a, l, ns, h, rfl, h0, hl, lt, few, fin⟩ := h
    refine ⟨_, (pss_cons (ps_if (pt_cmpR op_lt (pv 2) (pv 0) (nomark _)) (pss_one (ps_ret (pe_ix ix_list (pv 1) (pv 2) (fun _ _ => rfl)))) pss_nil)
  (pss_one (ps_ret (pe_ix ix_list (pv 1) (pe_op op_add (pv 0) (pe_op op_mod (pe_callTy call_int1 rfl U.z_int (by decide +kernel) (pa_cons (pe_op op_sub (pv 2) (pv 0)) pa_nil)) (pe_op op_sub (pe_callB call_len rfl U.z_len (by decide +kernel) (pa_cons (pv 1) pa_nil)) (pv 0)))) (fun _ _ => rfl))))), ?_⟩
    have sz : (10000 : Nat) ≤ sizeLine := by show 10000 ≤ 16777216; decide
    obtain ⟨h, rfl⟩ := Int.eq_ofNat_of_zero_le h0
    rw [Int.toNat_natCast] at fin
    refine ⟨_, rfl, _, rfl, _, _, rfl, rfl, _, rfl, ?_⟩
    unfold atW at fin
    refine ite2 (fun c => ?_) (fun c => ?_)
    · have c1 : h < a := by have z : (h : Int) < (a : Int) := of_decide_eq_true c; omega
      rw [if_pos c1] at fin
      refine ⟨_, rfl, _, rfl, l, _, _, .int (ns.getD h 0), rfl, rfl, SqL.of hl, at_nat' ?_, fin⟩
      rw [List.getElem?_map, List.getD_eq_getElem?_getD, List.getElem?_eq_getElem (by omega)]
      rfl
    · have c1 : ¬ h < a := fun y => c (decide_eq_true (by omega))
      rw [if_neg c1] at fin
      have m := Nat.mod_lt (h - a) (show ns.length - a > 0 by omega)
      have lT : LenV K (.ref l) H ns.length := by
        have q := SeqAt2.len (K := K) (SqB.ii (t := false) (show SqB false H l (ns.map V.int) from hl))
        rw [List.length_map] at q
        exact q
      refine ⟨_, rfl, _, rfl, _, rfl, _, rfl, _, _, rfl, rfl, .inl ⟨_, rfl, _, rfl, _, _, rfl, lT, _, rfl, _, _, rfl, rfl, _, _, rfl, rfl, by omega, _, _, rfl, rfl, l, _, _, .int (ns.getD (a + (h - a) % (ns.length - a)) 0), rfl, rfl, SqL.of hl, ?_, fin⟩⟩
      show atI _ ((a : Int) + ((h : Int) - a) % ((ns.length : Int) - a)) = _
      rw [show (a : Int) + ((h : Int) - a) % ((ns.length : Int) - a) = ((a + (h - a) % (ns.length - a) : Nat) : Int) by
        rw [show (h : Int) - a = ((h - a : Nat) : Int) by omega, show (ns.length : Int) - a = ((ns.length - a : Nat) : Int) by omega]
        rfl]
      refine at_nat' ?_
      rw [List.getElem?_map, List.getD_eq_getElem?_getD, List.getElem?_eq_getElem (by omega)]
      rfl

abbrev s_due : Stmt := topS 60
theorem sc_due : FnScope ["_law_case", "_law_parts_here", "_law_spot", "_law_low"] ["_law_case", "_law_parts_here", "_law_spot", "_law_low"] (defScope s_due) := ⟨rfl, rfl, rfl, by decide +kernel, rfl, by decide +kernel, by decide +kernel⟩
/-- _law_due's answer -/
def dueHL (W : Nat → Int) (d : RD) (h l : Int) : Bool := standsB d h && decide (leftI d h = l) && decide (W h.toNat = 0) && decide (W l.toNat = 0)
def spDue (CT : Addr) : Sp := fun vs H Q _ => ∃ (c tp : Addr) (a : Nat) (ns : List Int) (d : RD) (h l : Int), vs = [.ref c, .ref tp, .int h, .int l] ∧ CaseAt CT H c a ns ∧ CaseOk a ns ∧ H tp = some (.tup d.tup) ∧ d.Wf ∧ 0 ≤ h ∧ 0 ≤ l ∧ Q (.bl (dueHL (atW ns a (ns.length - a)) d h l)) H
theorem ok_due {CT f fLt fWor : Addr} {fd fdLt fdWor : FuncData} (F : Fun K "_law_due" "_law_due" s_due f fd) (U : Blt mg) (Lt : Fun K "_law_left" "_law_left" s_left fLt fdLt) (gLt : mg "_law_left" = some (.ref fLt)) (b_left : L2.Binds K fdLt ["_law_parts_here", "_law_spot"] [])
    (Wor : Fun K "_law_worth" "_law_worth" s_wor fWor fdWor) (gWor : mg "_law_worth" = some (.ref fWor)) (b_worth : L2.Binds K fdWor ["_law_begin_so", "_law_numbers_so", "_law_spot"] []) : FnOk P w K mg base CX0 2 f fd ["_law_case", "_law_parts_here", "_law_spot", "_law_low"] (spDue CT) := by
  have G_left : FnOk P w K mg base CX0 1 fLt fdLt ["_law_parts_here", "_law_spot"] spLeft := ok_left Lt U
  have G_worth : FnOk P w K mg base CX0 1 fWor fdWor ["_law_begin_so", "_law_numbers_so", "_law_spot"] spWor := ok_worth Wor U
  refine F.ok sc_due (fun vs H Q E h => ?_) (fun cdv A outer s H vs Q E hr h => ?_)
  · obtain ⟨c, tp, a, ns, d, h, l, rfl, _⟩ := h
    rfl
  · obtain ⟨c, tp, a, ns, d, h, l, rfl, ca, ok, ht, wf, h0, l0, fin⟩ := h
    refine ⟨_, (pss_cons (ps_if (pt_cmpR op_ne (pe_call G_left (hr.mono (by decide)) rfl gLt Lt.kp b_left .nil pass0 (by exact (pa_cons (pv 1) (pa_cons (pv 2) pa_nil)))) (pv 3) (nomark _)) (pss_one (ps_ret pe_bl)) pss_nil)
  (pss_one (ps_ret (pe_and (pe_cmpR op_eq (pe_call G_worth (hr.mono (by decide)) rfl gWor Wor.kp b_worth .nil pass0 (by exact (pa_cons (pe_ix ix_tup (pv 0) pe_int (fun _ _ => rfl)) (pa_cons (pe_ix ix_tup (pv 0) pe_int (fun _ _ => rfl)) (pa_cons (pv 2) pa_nil))))) pe_int (nomark _)) (pe_one (pe_cmpR op_eq (pe_call G_worth (hr.mono (by decide)) rfl gWor Wor.kp b_worth .nil pass0 (by exact (pa_cons (pe_ix ix_tup (pv 0) pe_int (fun _ _ => rfl)) (pa_cons (pe_ix ix_tup (pv 0) pe_int (fun _ _ => rfl)) (pa_cons (pv 3) pa_nil))))) pe_int (nomark _))))))), ?_⟩
    have n1 := ok.told.n1
    have few := ok.few
    obtain ⟨x, lr, hc, _, hl⟩ := ca
    refine ⟨_, rfl, _, rfl, tp, d, h, rfl, ht, wf, _, rfl, ?_⟩
    have e0 : (!decide (leftV d h = V.int l)) = !(standsB d h && decide (leftI d h = l)) := by
      unfold leftV
      cases standsB d h with
      | true =>
        rw [if_pos rfl, Bool.true_and]
        by_cases z : leftI d h = l
        · rw [z, decide_eq_true rfl, decide_eq_true rfl]
        · rw [decide_eq_false z, decide_eq_false fun y => z (V.int.inj y)]
      | false => rfl
    unfold dueHL at fin
    have sc : scal (leftV d h) (V.int l) = true := by
      unfold leftV
      split <;> rfl
    refine ⟨sc, _, rfl, ?_⟩
    rw [e0]
    cases ed : (standsB d h && decide (leftI d h = l)) with
    | false =>
      rw [ed] at fin
      exact iteT fin
    | true =>
      rw [ed, Bool.true_and] at fin
      refine iteF ?_
      refine ⟨_, rfl, c, _, _, _, rfl, rfl, SqT.of hc, rfl, _, rfl, c, _, _, _, rfl, rfl, SqT.of hc, rfl, _, rfl, a, lr, ns, h, rfl, h0, hl, by omega, by omega, rfl, _, rfl, ?_⟩
      refine ite2 (fun z => ?_) (fun z => ?_)
      · rw [dec_V] at z
        rw [z, Bool.true_and] at fin
        refine ⟨_, rfl, c, _, _, _, rfl, rfl, SqT.of hc, rfl, _, rfl, c, _, _, _, rfl, rfl, SqT.of hc, rfl, _, rfl, a, lr, ns, l, rfl, l0, hl, by omega, by omega, rfl, ?_⟩
        rw [dec_V]
        exact fin
      · rw [dec_V] at z
        rw [Bool.eq_false_iff.mpr z, Bool.false_and] at fin
        exact fin

end
end Fz
set_option Elab.async false
set_option linter.all false
set_option maxRecDepth 100000
set_option maxHeartbeats 2000000
namespace Fz
open PySem PySem.Spec PyProof.Rows L2
section
variable {P : Program} {w : World} {K : PySem.W.Frag} {mg : Str → Option Value} {base : Heap}

abbrev s_far : Stmt := topS 61
theorem sc_far : FnScope ["_law_pen_here", "_law_case", "_law_parts_here", "_law_rule_so", "_law_again", "_law_spot", "_law_low", "_law_due_here"] ["_law_pen_here", "_law_case", "_law_parts_here", "_law_rule_so"] (defScope s_far) := ⟨rfl, rfl, rfl, by decide +kernel, rfl, by decide +kernel, by decide +kernel⟩
theorem shows_due {W : Nat → Int} {d : RD} {h l : Int} (h0 : 0 ≤ h) (h1 : h ≤ great) : showsB W d (.int h) (.int l) = dueHL W d h l := by
  show (decide (0 ≤ h) && decide (h ≤ great) && standsB d h && decide (l = leftI d h) && decide (W h.toNat = 0) && decide (W l.toNat = 0)) = (standsB d h && decide (leftI d h = l) && decide (W h.toNat = 0) && decide (W l.toNat = 0))
  rw [decide_eq_true h0, decide_eq_true h1, Bool.true_and, Bool.true_and]
  by_cases c : l = leftI d h
  · rw [decide_eq_true c, decide_eq_true c.symm]
  · rw [decide_eq_false c, decide_eq_false (Ne.symm c)]
theorem due_neg {W : Nat → Int} {d : RD} {h l : Int} (wf : d.Wf) (h0 : 0 ≤ h) (ln : l < 0) : dueHL W d h l = false := by
  unfold dueHL
  cases sb : standsB d h with
  | false => rfl
  | true =>
    have q := stands_left wf h0 sb
    rw [decide_eq_false (show ¬ leftI d h = l by omega)]
    rfl
theorem ten30 : (10 : Int) ^ (30 : Int).toNat = great := by decide +kernel
def spFar (CT CF CD : Addr) : Sp := fun vs H Q _ => ∃ (n : Nat) (p q c tp y : Addr) (a : Nat) (ns : List Int) (d : RD), vs = [.ref p, .ref c, .ref tp, .ref y] ∧ PenAt n H p q ∧ n < 90000 ∧ CaseAt CT H c a ns ∧ CaseOk a ns ∧ H tp = some (.tup d.tup) ∧ RuleAt CF CD H y d ∧ d.Wf ∧ ∀ H', PenAt (n + 12) H' p q → Mv p H H' → Q (.bl true) H'
theorem ok_far {CT CF CD f fD fP fLt fWor fDu fSh : Addr} {fd fdD fdP fdLt fdWor fdDu fdSh : FuncData} (F : Fun K "_law_far_right" "_law_far_right" s_far f fd) (U : Blt mg) (D : Fun K "_law_draw" "_law_draw" s_draw fD fdD) (gD : mg "_law_draw" = some (.ref fD)) (b_draw : L2.Binds K fdD ["_law_pen_here", "_law_many"] [])
    (Pk : Fun K "_law_pick" "_law_pick" s_pick fP fdP) (gP : mg "_law_pick" = some (.ref fP)) (b_pick : L2.Binds K fdP ["_law_pen_here", "_law_some"] [])
    (Lt : Fun K "_law_left" "_law_left" s_left fLt fdLt) (gLt : mg "_law_left" = some (.ref fLt)) (b_left : L2.Binds K fdLt ["_law_parts_here", "_law_spot"] [])
    (Wor : Fun K "_law_worth" "_law_worth" s_wor fWor fdWor) (gWor : mg "_law_worth" = some (.ref fWor)) (b_worth : L2.Binds K fdWor ["_law_begin_so", "_law_numbers_so", "_law_spot"] [])
    (Du : Fun K "_law_due" "_law_due" s_due fDu fdDu) (gDu : mg "_law_due" = some (.ref fDu)) (b_due : L2.Binds K fdDu ["_law_case", "_law_parts_here", "_law_spot", "_law_low"] [])
    (Sh : Fun K "shows_turned" "shows_turned" s_sh fSh fdSh) (gSh : mg "shows_turned" = some (.ref fSh)) (b_sh : L2.Binds K fdSh ["table", "rule", "heap", "left"] []) (G_sh : FnOk P w K mg base CX0 5 fSh fdSh ["table", "rule", "heap", "left"] (spSh K CT CF CD)) : FnOk P w K mg base CX0 6 f fd ["_law_pen_here", "_law_case", "_law_parts_here", "_law_rule_so"] (spFar CT CF CD) := by
  have G_draw : FnOk P w K mg base CX0 1 fD fdD ["_law_pen_here", "_law_many"] spDraw := ok_draw D U
  have G_pick : FnOk P w K mg base CX0 2 fP fdP ["_law_pen_here", "_law_some"] (spPick K) := ok_pick Pk U D gD b_draw
  have G_left : FnOk P w K mg base CX0 1 fLt fdLt ["_law_parts_here", "_law_spot"] spLeft := ok_left Lt U
  have G_due : FnOk P w K mg base CX0 2 fDu fdDu ["_law_case", "_law_parts_here", "_law_spot", "_law_low"] (spDue CT) := ok_due Du U Lt gLt b_left Wor gWor b_worth
  refine F.ok sc_far (fun vs H Q E h => ?_) (fun cdv A outer s H vs Q E hr h => ?_)
  · obtain ⟨n, p, q, c, tp, y, a, ns, d, rfl, _⟩ := h
    rfl
  · obtain ⟨n, p, q, c, tp, y, a, ns, d, rfl, pen0, hn, ca0, ok, ht0, ra0, wf, fin⟩ := h
    refine ⟨_, (C8.pss_cut (ps_for PassesOwn.never rfl (pi_range1 rfl U.z_range (by exact (pa_cons pe_int pa_nil))) (pg_name (i := 4) sc_far.nd rfl (Or.inl rfl)) (pss_cons (ps_set (i := 5) sc_far.nd rfl (Or.inl rfl) (pe_call G_draw (hr.mono (by decide)) rfl gD D.kp b_draw .nil pass0 (by exact (pa_cons (pv 0) (pa_cons (pe_op op_pow pe_int pe_int) pa_nil)))))
  (pss_cons (ps_set (i := 6) sc_far.nd rfl (Or.inl rfl) (pe_call G_left (hr.mono (by decide)) rfl gLt Lt.kp b_left .nil pass0 (by exact (pa_cons (pv 2) (pa_cons (pv 5) pa_nil)))))
  (C8.pss_cut (ps_set (i := 6) sc_far.nd rfl (Or.inl rfl) (pe_ifExp (pt_cmpR op_isN (pv 6) pe_non (nomark _)) (pe_op op_sub (pv 5) pe_int) (pe_op op_add (pv 6) (pe_call G_pick (hr.mono (by decide)) rfl gP Pk.kp b_pick .nil pass0 (by exact (pa_cons (pv 0) (pa_cons (pe_lst (pa_cons pe_int (pa_cons pe_int (pa_cons pe_int pa_nil)))) pa_nil)))))))
  (pss_cons (ps_set (i := 7) sc_far.nd rfl (Or.inl rfl) (pe_and (pe_cmpR op_ge (pv 6) pe_int (nomark _)) (pe_one (pe_call G_due (hr.mono (by decide)) rfl gDu Du.kp b_due .nil pass0 (by exact (pa_cons (pv 1) (pa_cons (pv 2) (pa_cons (pv 5) (pa_cons (pv 6) pa_nil)))))))))
  (pss_one (ps_if (pt_cmpR op_ne (pe_call G_sh (hr.mono (by decide)) rfl gSh Sh.kp b_sh .nil pass0 (by exact (pa_cons (pe_ix ix_tup (pv 1) pe_int (fun _ _ => rfl)) (pa_cons (pv 3) (pa_cons (pv 5) (pa_cons (pv 6) pa_nil)))))) (pv 7) (nomark _)) (pss_one (ps_ret pe_bl)) pss_nil)))))))
  (pss_one (ps_ret pe_bl))), ?_⟩
    have sz : (10000 : Nat) ≤ sizeLine := by show 10000 ≤ 16777216; decide
    refine ⟨fun σ' H' => ∃ v4 v5 v6 v7 : Option V, σ' = [some (.ref p), some (.ref c), some (.ref tp), some (.ref y), v4, v5, v6, v7] ∧ PenAt (n + 12) H' p q ∧ Mv p H H', ?_, ?_⟩
    · refine ⟨6, rfl, by decide, by decide, for_range (lo := 0) (n := 6) (fun i σ' H' => ∃ v4 v5 v6 v7 : Option V, σ' = [some (.ref p), some (.ref c), some (.ref tp), some (.ref y), v4, v5, v6, v7] ∧ PenAt (n + 2 * i) H' p q ∧ Mv p H H') ⟨_, _, _, _, rfl, pen0, fun _ _ _ z => z⟩ ?_ ?_⟩
      · rintro i σ' H1 hi ⟨v4, v5, v6, v7, rfl, p1, m1⟩
        refine ⟨_, rfl, _, _, rfl, rfl, ⟨by decide, by decide, by decide⟩, ?_⟩
        refine ⟨n + 2 * i, p, q, great, (by show [V.ref p, V.int ((10 : Int) ^ (30 : Int).toNat)] = [V.ref p, V.int great]; rw [ten30]), p1, by omega, by decide, by decide +kernel, fun H2 s p2 m2 s0 s1 => ?_⟩
        have m12 := m1.trans m2
        have ht2 := tup_mvN ht0 pen0 m12.toN
        refine ⟨_, rfl, _, rfl, tp, d, s, rfl, ht2, wf, ?_⟩
        refine ⟨fun σ' H' => ∃ low : Int, σ' = [some (.ref p), some (.ref c), some (.ref tp), some (.ref y), some (.int (0 + (i : Nat))), some (.int s), some (.int low), v7] ∧ PenAt (n + 2 * i + 2) H' p q ∧ Mv p H H', ?_, ?_⟩
        · unfold leftV
          by_cases sb : standsB d s = true
          · rw [if_pos sb]
            refine ⟨_, rfl, rfl, _, rfl, iteF ?_⟩
            refine ⟨_, rfl, _, rfl, by show 3 ≤ sizeLine; omega, fun lk hlk => ⟨n + 2 * i + 1, p, q, lk, _, rfl, p2.new hlk, by omega, (p2.fresh hlk).1, upd_same, by show 0 < 3; decide, by show 3 ≤ 1000; decide, fun H5 e p6 m6 he => ?_⟩⟩
            obtain ⟨z, rfl⟩ : ∃ z, e = .int z := by
              simp only [List.mem_cons, List.not_mem_nil, or_false] at he
              rcases he with rfl | rfl | rfl <;> exact ⟨_, rfl⟩
            exact ⟨_, _, rfl, rfl, _, rfl, p6, (m12.trans (Mv.new hlk)).trans m6⟩
          · rw [if_neg sb]
            exact ⟨_, rfl, rfl, _, rfl, iteT ⟨_, rfl, _, _, rfl, rfl, _, rfl, p2.more (by omega), m12⟩⟩
        rintro σ' H3 ⟨low, rfl, p3, m3⟩
        have ht3 := tup_mvN ht0 pen0 m3.toN
        have ca3 := ca0.mv pen0 m3
        have ra3 := ra0.mv pen0 m3
        obtain ⟨x, l, hc, smt, hl⟩ := id ca3
        have sg : s ≤ great := by omega
        have tail : ∀ R : VK, (∀ b : Bool, b = dueHL (atW ns a (ns.length - a)) d s low → R (.bl b) H3) → R (.bl (dueHL (atW ns a (ns.length - a)) d s low)) H3 := fun R k => k _ rfl
        refine ⟨_, rfl, _, _, rfl, rfl, _, rfl, ?_⟩
        refine ite2 (fun lz => ?_) (fun lz => ?_)
        · have lz1 : 0 ≤ low := of_decide_eq_true lz
          refine ⟨_, rfl, _, rfl, _, rfl, _, rfl, c, tp, a, ns, d, s, low, rfl, ca3, ok, ht3, wf, s0, lz1, ?_⟩
          refine ⟨_, rfl, c, _, _, _, rfl, rfl, SqT.of hc, rfl, _, rfl, _, rfl, _, rfl, x, y, _, d, .int s, .int low, rfl, smt, ra3, wf, it_int, it_int, ?_⟩
          refine ⟨_, rfl, rfl, _, rfl, ?_⟩
          rw [shows_due s0 sg, decide_eq_true rfl]
          exact iteF ⟨_, _, _, _, rfl, p3.more (by omega), m3⟩
        · have lz1 : low < 0 := by
            have z : ¬ (0 : Int) ≤ low := fun y => lz (decide_eq_true y)
            omega
          refine ⟨_, rfl, c, _, _, _, rfl, rfl, SqT.of hc, rfl, _, rfl, _, rfl, _, rfl, x, y, _, d, .int s, .int low, rfl, smt, ra3, wf, it_int, it_int, ?_⟩
          refine ⟨_, rfl, rfl, _, rfl, ?_⟩
          rw [shows_due s0 sg, due_neg wf s0 lz1, decide_eq_true rfl]
          exact iteF ⟨_, _, _, _, rfl, p3.more (by omega), m3⟩
      · rintro σ' H' ⟨v4, v5, v6, v7, rfl, p1, m1⟩
        exact ⟨_, _, _, _, rfl, p1, m1⟩
    rintro σ' H' ⟨v4, v5, v6, v7, rfl, p1, m1⟩
    exact fin H' p1 m1

abbrev s_odd : Stmt := topS 62
theorem sc_odd : FnScope ["_law_pen_here", "_law_case", "_law_rule_so", "_law_spot", "_law_low", "_law_odd", "_law_turn", "_law_one"] ["_law_pen_here", "_law_case", "_law_rule_so", "_law_spot", "_law_low"] (defScope s_odd) := ⟨rfl, rfl, rfl, by decide +kernel, rfl, by decide +kernel, by decide +kernel⟩
theorem odd_no {W : Nat → Int} {d : RD} (wf : d.Wf) {tt ll dd y : Addr} {e : V} (he : e ∈ [V.non, .bl true, .bl false, .int (-1), .int (great + 1), .str "0", .ref tt, .ref ll, .ref dd, .ref y]) : showsB W d e (.int 0) = false ∧ showsB W d (.int 5) e = false := by
  have five : ∀ l : Int, (l < 0 ∨ 5 < l) → showsB W d (.int 5) (.int l) = false := fun l hl => by
    rw [shows_due (by decide) (by decide)]
    unfold dueHL
    cases sb : standsB d 5 with
    | false => rfl
    | true =>
      have q := stands_left wf (by decide) sb
      rw [decide_eq_false (show ¬ leftI d 5 = l by omega)]
      rfl
  have out : ∀ h : Int, (h < 0 ∨ great < h) → showsB W d (.int h) (.int 0) = false := fun h hh => by
    show (decide (0 ≤ h) && decide (h ≤ great) && standsB d h && decide (0 = leftI d h) && decide (W h.toNat = 0) && decide (W (0 : Int).toNat = 0)) = false
    rcases hh with hh | hh
    · rw [decide_eq_false (show ¬ 0 ≤ h by omega)]
      rfl
    · rw [decide_eq_false (show ¬ h ≤ great by omega), Bool.and_false]
      rfl
  simp only [List.mem_cons, List.not_mem_nil, or_false] at he
  rcases he with rfl | rfl | rfl | rfl | rfl | rfl | rfl | rfl | rfl | rfl
  · exact ⟨rfl, rfl⟩
  · exact ⟨rfl, rfl⟩
  · exact ⟨rfl, rfl⟩
  · exact ⟨out _ (.inl (by decide)), five _ (.inl (by decide))⟩
  · exact ⟨out _ (.inr (by decide)), five _ (.inr (by decide))⟩
  · exact ⟨rfl, rfl⟩
  · exact ⟨rfl, rfl⟩
  · exact ⟨rfl, rfl⟩
  · exact ⟨rfl, rfl⟩
  · exact ⟨rfl, rfl⟩
def spOdd (CT CF CD : Addr) : Sp := fun vs H Q _ => ∃ (n : Nat) (p q c y : Addr) (a : Nat) (ns : List Int) (d : RD), vs = [.ref p, .ref c, .ref y, .int 5, .int 0] ∧ PenAt n H p q ∧ n < 90000 ∧ CaseAt CT H c a ns ∧ CaseOk a ns ∧ RuleAt CF CD H y d ∧ d.Wf ∧ ∀ H', PenAt (n + 3) H' p q → Mv p H H' → Q (.bl true) H'
theorem ok_odd {CT CF CD f fD fP fSh : Addr} {fd fdD fdP fdSh : FuncData} (F : Fun K "_law_odd_right" "_law_odd_right" s_odd f fd) (U : Blt mg) (PQ : PrgQ K CF CD) (NI : NoInt K CF CD) (D : Fun K "_law_draw" "_law_draw" s_draw fD fdD) (gD : mg "_law_draw" = some (.ref fD)) (b_draw : L2.Binds K fdD ["_law_pen_here", "_law_many"] [])
    (Pk : Fun K "_law_pick" "_law_pick" s_pick fP fdP) (gP : mg "_law_pick" = some (.ref fP)) (b_pick : L2.Binds K fdP ["_law_pen_here", "_law_some"] [])
    (Sh : Fun K "shows_turned" "shows_turned" s_sh fSh fdSh) (gSh : mg "shows_turned" = some (.ref fSh)) (b_sh : L2.Binds K fdSh ["table", "rule", "heap", "left"] []) (G_sh : FnOk P w K mg base CX0 5 fSh fdSh ["table", "rule", "heap", "left"] (spSh K CT CF CD)) : FnOk P w K mg base CX0 6 f fd ["_law_pen_here", "_law_case", "_law_rule_so", "_law_spot", "_law_low"] (spOdd CT CF CD) := by
  have G_pick : FnOk P w K mg base CX0 2 fP fdP ["_law_pen_here", "_law_some"] (spPick K) := ok_pick Pk U D gD b_draw
  refine F.ok sc_odd (fun vs H Q E h => ?_) (fun cdv A outer s H vs Q E hr h => ?_)
  · obtain ⟨n, p, q, c, y, a, ns, d, rfl, _⟩ := h
    rfl
  · obtain ⟨n, p, q, c, y, a, ns, d, rfl, pen0, hn, ca0, ok, ra0, wf, fin⟩ := h
    refine ⟨_, (C8.pss_cut (ps_set (i := 5) sc_odd.nd rfl (Or.inl rfl) (pe_lst (pa_cons pe_non (pa_cons pe_bl (pa_cons pe_bl (pa_cons (pe_un un_neg pe_int) (pa_cons (pe_op op_add (pe_op op_pow pe_int pe_int) pe_int) (pa_cons pe_str (pa_cons (pe_tup (pa_cons pe_int pa_nil)) (pa_cons (pe_lst (pa_cons pe_int pa_nil)) (pa_cons pe_dnewK (pa_cons (pv 2) pa_nil))))))))))))
  (C8.pss_cut (ps_for PassesOwn.never rfl (pi_range1 rfl U.z_range (by exact (pa_cons pe_int pa_nil))) (pg_name (i := 6) sc_odd.nd rfl (Or.inl rfl)) (pss_cons (ps_set (i := 7) sc_odd.nd rfl (Or.inl rfl) (pe_call G_pick (hr.mono (by decide)) rfl gP Pk.kp b_pick .nil pass0 (by exact (pa_cons (pv 0) (pa_cons (pv 5) pa_nil)))))
  (pss_cons (ps_if (pt_cmpR op_notBl (pe_call G_sh (hr.mono (by decide)) rfl gSh Sh.kp b_sh .nil pass0 (by exact (pa_cons (pe_ix ix_tup (pv 1) pe_int (fun _ _ => rfl)) (pa_cons (pv 2) (pa_cons (pv 7) (pa_cons (pv 4) pa_nil)))))) pe_bl (nomark _)) (pss_one (ps_ret pe_bl)) pss_nil)
  (pss_one (ps_if (pt_cmpR op_notBl (pe_call G_sh (hr.mono (by decide)) rfl gSh Sh.kp b_sh .nil pass0 (by exact (pa_cons (pe_ix ix_tup (pv 1) pe_int (fun _ _ => rfl)) (pa_cons (pv 2) (pa_cons (pv 3) (pa_cons (pv 7) pa_nil)))))) pe_bl (nomark _)) (pss_one (ps_ret pe_bl)) pss_nil)))))
  (pss_one (ps_ret pe_bl)))), ?_⟩
    have sz : (10000 : Nat) ≤ sizeLine := by show 10000 ≤ 16777216; decide
    refine ⟨fun σ' H' => ∃ tt ll dd lo : Addr, σ' = [some (.ref p), some (.ref c), some (.ref y), some (.int 5), some (.int 0), some (.ref lo), none, none] ∧ Same H H' ∧ H' lo = some (.lst [V.non, .bl true, .bl false, .int (-1), .int (great + 1), .str "0", .ref tt, .ref ll, .ref dd, .ref y]) ∧ H' tt = some (.tup [.int 0]) ∧ H' ll = some (.lst [.int 0]) ∧ H' dd = some (.dK []) ∧ lo ≠ p ∧ tt ≠ p ∧ ll ≠ p ∧ dd ≠ p, ?_, ?_⟩
    · refine ⟨_, rfl, _, _, rfl, rfl, ⟨by decide, by decide, by decide⟩, _, _, rfl, rfl, by show 1 ≤ sizeLine; omega, fun tt htt => ⟨by show 1 ≤ sizeLine; omega, fun ll hll => fun dd hdd => ⟨_, rfl, by show 10 ≤ sizeLine; omega, fun lo hlo => ?_⟩⟩⟩
      have s1 := Same.new (o := .tup [.int 0]) htt
      have s2 := Same.new (o := .lst [.int 0]) hll
      have s3 := Same.new (o := .dK []) hdd
      have s4 := fun o => Same.new (o := o) hlo
      have p1 := pen0.new (o := .tup [.int 0]) htt
      have p2 := p1.new (o := .lst [.int 0]) hll
      have p3 := p2.new (o := .dK []) hdd
      refine ⟨tt, ll, dd, lo, rfl, ((s1.trans s2).trans s3).trans (s4 _), ?_, s4 _ _ _ (s3 _ _ (s2 _ _ upd_same)), s4 _ _ _ (s3 _ _ upd_same), s4 _ _ _ upd_same, (p3.fresh hlo).1, (pen0.fresh htt).1, (p1.fresh hll).1, (p2.fresh hdd).1⟩
      rw [upd_same]
      show some (HO.lst [V.non, .bl true, .bl false, .int (-1), .int ((10 : Int) ^ (30 : Int).toNat + 1), .str "0", .ref tt, .ref ll, .ref dd, .ref y]) = _
      rw [ten30]
    rintro σ' H1 ⟨tt, ll, dd, lo, rfl, s1, hlo, htt, hll, hdd, nlo, ntt, nll, ndd⟩
    have pen1 := pen0.same s1
    have ca1 := ca0.same s1
    have ra1 := ra0.same s1
    have kinds : ∀ H', Mv p H1 H' → ∀ e ∈ [V.non, .bl true, .bl false, .int (-1), .int (great + 1), .str "0", .ref tt, .ref ll, .ref dd, .ref y], IntTy K H' e := fun H' m e he => by
      refine AnyV.int PQ NI ?_
      simp only [List.mem_cons, List.not_mem_nil, or_false] at he
      rcases he with rfl | rfl | rfl | rfl | rfl | rfl | rfl | rfl | rfl | rfl
      · exact .inl True.intro
      · exact .inl True.intro
      · exact .inl True.intro
      · exact .inl True.intro
      · exact .inl True.intro
      · exact .inl True.intro
      · exact .inl (.inl ⟨_, m _ _ ntt htt⟩)
      · exact .inl (.inr (.inl ⟨_, m _ _ nll hll⟩))
      · exact .inl (.inr (.inr ⟨_, m _ _ ndd hdd⟩))
      · exact .inr ⟨y, d, rfl, ra1.mv pen1 m⟩
    refine ⟨fun σ' H' => ∃ v6 v7 : Option V, σ' = [some (.ref p), some (.ref c), some (.ref y), some (.int 5), some (.int 0), some (.ref lo), v6, v7] ∧ PenAt (n + 3) H' p q ∧ Mv p H1 H', ?_, ?_⟩
    · refine ⟨3, rfl, by decide, by decide, for_range (lo := 0) (n := 3) (fun i σ' H' => ∃ v6 v7 : Option V, σ' = [some (.ref p), some (.ref c), some (.ref y), some (.int 5), some (.int 0), some (.ref lo), v6, v7] ∧ PenAt (n + i) H' p q ∧ Mv p H1 H') ⟨_, _, rfl, pen1, fun _ _ _ z => z⟩ ?_ ?_⟩
      · rintro i σ' H2 hi ⟨v6, v7, rfl, p2, m2⟩
        refine ⟨_, rfl, _, rfl, n + i, p, q, lo, _, rfl, p2, by omega, nlo, m2 _ _ nlo hlo, by show 0 < 10; decide, by show 10 ≤ 1000; decide, fun H3 e p3 m3 he => ?_⟩
        have m13 := m2.trans m3
        obtain ⟨x, l, hc, smt, hl⟩ := ca1.mv pen1 m13
        have ra3 := ra1.mv pen1 m13
        obtain ⟨o1, o2⟩ := odd_no (W := atW ns a (ns.length - a)) wf he
        have ke := kinds H3 m13 e he
        refine ⟨_, rfl, c, _, _, _, rfl, rfl, SqT.of hc, rfl, _, rfl, _, rfl, _, rfl, x, y, _, d, e, .int 0, rfl, smt, ra3, wf, ke, it_int, ?_⟩
        rw [o1]
        refine ⟨false, false, rfl, rfl, _, rfl, iteF ?_⟩
        refine ⟨_, rfl, c, _, _, _, rfl, rfl, SqT.of hc, rfl, _, rfl, _, rfl, _, rfl, x, y, _, d, .int 5, e, rfl, smt, ra3, wf, it_int, ke, ?_⟩
        rw [o2]
        exact ⟨false, false, rfl, rfl, _, rfl, iteF ⟨_, _, rfl, p3, m13⟩⟩
      · rintro σ' H' ⟨v6, v7, rfl, p2, m2⟩
        exact ⟨_, _, rfl, p2, m2⟩
    rintro σ' H' ⟨v6, v7, rfl, p2, m2⟩
    exact fin H' p2 ((Same.mv s1 p).trans m2)

end
end Fz
set_option Elab.async false
set_option linter.all false
set_option maxRecDepth 100000
set_option maxHeartbeats 2000000
namespace Fz
open PySem PySem.Spec PyProof.Rows L2
section
variable {P : Program} {w : World} {K : PySem.W.Frag} {mg : Str → Option Value} {base : Heap}

abbrev s_law : Stmt := topS 63
theorem sc_law : FnScope ["_law_script", "_law_pen_here", "_law_turn", "_law_rule_so", "_law_spot", "_law_found", "_law_case", "_law_parts_here", "_law_told", "_law_low"] ["_law_script"] (defScope s_law) := ⟨rfl, rfl, rfl, by decide +kernel, rfl, by decide +kernel, by decide +kernel⟩
theorem ne_bools {H : Hp} {Q : VK} {a b : Addr} {xs ys : List Bool} (ha : H a = some (.lst (xs.map V.bl))) (hb : H b = some (.lst (ys.map V.bl))) (fin : Q (.bl (!decide (xs = ys))) H) : rNeD K (.ref a) (.ref b) H Q := by
  refine ⟨.list (xs.map PyData.bool), .list (ys.map PyData.bool), Dp.lst (SqL.of ha) (dp_bools xs), Dp.lst (SqL.of hb) (dp_bools ys), shaped_bools xs, shaped_bools ys, ?_⟩
  rw [show PyData.eqv (.list (xs.map PyData.bool)) (.list (ys.map PyData.bool)) = PyData.eqvAll (xs.map PyData.bool) (ys.map PyData.bool) from by simp [PyData.eqv], eqv_bools']
  exact fin
theorem neT_is {CT x y : Addr} {H : Hp} {Q : VK} {b p b' p' : Nat} {ns ms : List Int} (TC : TabC K CT) (tyT : TyC K CT) (h : TabAt CT H x b p ns) (g : TabAt CT H y b' p' ms) (fin : Q (.bl (!decide (b = b' ∧ p = p' ∧ ns = ms))) H) : rNeO K CT (spEqT K CT) (.ref x) (.ref y) H Q := by
  obtain ⟨dx, t, h1, h2⟩ := h
  obtain ⟨dy, u, g1, g2⟩ := g
  exact ⟨x, dx, _, .ref CT, rfl, h1, tyT.ty TC.cl g1, nf_self, x, b, p, ns, _, rfl, ⟨dx, t, h1, h2⟩, .inl ⟨y, b', p', ms, rfl, ⟨dy, u, g1, g2⟩, _, rfl, fin⟩⟩
theorem ne_same {CF CD x y : Addr} {H : Hp} {Q : VK} {d : RD} (P : PrgQ K CF CD) (hx : RuleAt CF CD H x d) (hy : RuleAt CF CD H y d) (fin : Q (.bl false) H) : rEither (rNeO K CF (spEqR K CF)) (rNeO K CD (spEqR K CD)) (.ref x) (.ref y) H Q := by
  obtain ⟨dx, ax⟩ := hx
  obtain ⟨dy, ay⟩ := hy
  have k : ∃ c : Bool, V.bl (decide (d.rank = d.rank)) = .bl c ∧ Q (.bl (!c)) H := ⟨_, rfl, by rw [decide_eq_true rfl]; exact fin⟩
  cases d with
  | fixed s r m l => exact .inl ⟨x, dx, _, _, rfl, ax, P.tyF.ty P.icF.cl ay, nf_self, P.sp_rules (Q := fun z H' => ∃ c, z = .bl c ∧ Q (.bl (!c)) H') ax (fs_rank (.fixed s r m l)) ay (fs_rank (.fixed s r m l)) k⟩
  | down t r m => exact .inr ⟨x, dx, _, _, rfl, ax, P.tyD.ty P.icD.cl ay, nf_self, P.sp_rules (Q := fun z H' => ∃ c, z = .bl c ∧ Q (.bl (!c)) H') ax (fs_rank (.down t r m)) ay (fs_rank (.down t r m)) k⟩
def spLaw (K : PySem.W.Frag) : Sp := fun vs H Q _ => ∃ (a : Addr) (ns : List Int), vs = [.ref a] ∧ SqL K H a (ns.map V.int) ∧ ns.length ≤ 63 ∧ ∀ H', Q (.bl true) H'
/-- a row of answers -/
def dueRow (W : Nat → Int) (d : RD) (h : Int) (j : Nat) : List Bool := (List.range j).map fun k => dueHL W d h (0 + (k : Nat))
theorem dueRow_succ {W : Nat → Int} {d : RD} {h : Int} {j : Nat} : dueRow W d h (j + 1) = dueRow W d h j ++ [dueHL W d h (0 + (j : Nat))] := by
  unfold dueRow
  rw [List.range_succ, List.map_append]
  rfl
theorem dueRow_len {W : Nat → Int} {d : RD} {h : Int} {j : Nat} : (dueRow W d h j).length = j := by
  unfold dueRow
  rw [List.length_map, List.length_range]
theorem ok_law {CT CF CD CK CU f fPn fD fP fPa fTa fTi fRu fSh fLt fWor fDu fKw fKb fTb fFa fOd fEF fED fET : Addr} {fd fdPn fdD fdP fdPa fdTa fdTi fdRu fdSh fdLt fdWor fdDu fdKw fdKb fdTb fdFa fdOd fdEF fdED fdET : FuncData} (F : Fun K "law" "law" s_law f fd) (U : Blt mg) (TC : TabC K CT) (PQ : PrgQ K CF CD)
    (Pn : Fun K "_law_pen" "_law_pen" s_pen fPn fdPn) (gPn : mg "_law_pen" = some (.ref fPn)) (b_pen : L2.Binds K fdPn ["_law_script"] [])
    (D : Fun K "_law_draw" "_law_draw" s_draw fD fdD) (gD : mg "_law_draw" = some (.ref fD)) (b_draw : L2.Binds K fdD ["_law_pen_here", "_law_many"] [])
    (Pk : Fun K "_law_pick" "_law_pick" s_pick fP fdP) (gP : mg "_law_pick" = some (.ref fP)) (b_pick : L2.Binds K fdP ["_law_pen_here", "_law_some"] [])
    (Pa : Fun K "_law_parts" "_law_parts" s_parts fPa fdPa) (gPa : mg "_law_parts" = some (.ref fPa)) (b_parts : L2.Binds K fdPa ["_law_pen_here", "_law_most"] [])
    (Ta : Fun K "_law_table" "_law_table" s_tab fTa fdTa) (gTa : mg "_law_table" = some (.ref fTa)) (b_table : L2.Binds K fdTa ["_law_pen_here"] []) (G_table : FnOk P w K mg base CX0 7 fTa fdTa ["_law_pen_here"] (spTab CT))
    (G_ti : FnOk P w K mg base CX0 5 fTi fdTi ["self", "begin", "period", "numbers"] (spTableV CT)) (MkT : Mk K CT fTi) (gTab : mg "Table" = some (.ref CT)) (b_ti : L2.Binds K fdTi ["self", "begin", "period", "numbers"] [])
    (Ru : Fun K "_law_rule" "_law_rule" s_rule fRu fdRu) (gRu : mg "_law_rule" = some (.ref fRu)) (b_rule : L2.Binds K fdRu ["_law_parts_here"] []) (G_rule : FnOk P w K mg base CX0 7 fRu fdRu ["_law_parts_here"] (spRule CF CD))
    (Sh : Fun K "shows_turned" "shows_turned" s_sh fSh fdSh) (gSh : mg "shows_turned" = some (.ref fSh)) (b_sh : L2.Binds K fdSh ["table", "rule", "heap", "left"] []) (G_sh : FnOk P w K mg base CX0 5 fSh fdSh ["table", "rule", "heap", "left"] (spSh K CT CF CD))
    (bk_sh : KBn K fdSh ["table", "rule", "heap", "left"] 0 ["left", "heap", "rule", "table"] (fun us ws => us ++ ws.reverse) (fun vs zs => vs ++ zs.reverse))
    (Lt : Fun K "_law_left" "_law_left" s_left fLt fdLt) (gLt : mg "_law_left" = some (.ref fLt)) (b_left : L2.Binds K fdLt ["_law_parts_here", "_law_spot"] [])
    (Wor : Fun K "_law_worth" "_law_worth" s_wor fWor fdWor) (gWor : mg "_law_worth" = some (.ref fWor)) (b_worth : L2.Binds K fdWor ["_law_begin_so", "_law_numbers_so", "_law_spot"] [])
    (Du : Fun K "_law_due" "_law_due" s_due fDu fdDu) (gDu : mg "_law_due" = some (.ref fDu)) (b_due : L2.Binds K fdDu ["_law_case", "_law_parts_here", "_law_spot", "_law_low"] [])
    (Kw : Fun K "keeps_winners" "keeps_winners" s_kw fKw fdKw) (gKw : mg "keeps_winners" = some (.ref fKw)) (b_kw : L2.Binds K fdKw ["table", "rule"] []) (G_kw : FnOk P w K mg base CX0 5 fKw fdKw ["table", "rule"] (spKw CT CF CD CK CU))
    (oKb : PySem.W.findIn K (.ref CK) "__bool__" = some (some (.ref fKb))) (iKb : PySem.W.isFn K (.ref fKb) = true) (Kb : Fun K "__bool__" "Kept.__bool__" s_kb fKb fdKb) (b_kb : L2.Binds K fdKb ["self"] [])
    (oTb : PySem.W.findIn K (.ref CU) "__bool__" = some (some (.ref fTb))) (iTb : PySem.W.isFn K (.ref fTb) = true) (Tb : Fun K "__bool__" "Turned.__bool__" s_tb fTb fdTb) (b_tb : L2.Binds K fdTb ["self"] []) (KU : TurC K CU)
    (Fa : Fun K "_law_far_right" "_law_far_right" s_far fFa fdFa) (gFa : mg "_law_far_right" = some (.ref fFa)) (b_far : L2.Binds K fdFa ["_law_pen_here", "_law_case", "_law_parts_here", "_law_rule_so"] []) (G_far : FnOk P w K mg base CX0 6 fFa fdFa ["_law_pen_here", "_law_case", "_law_parts_here", "_law_rule_so"] (spFar CT CF CD))
    (Od : Fun K "_law_odd_right" "_law_odd_right" s_odd fOd fdOd) (gOd : mg "_law_odd_right" = some (.ref fOd)) (b_odd : L2.Binds K fdOd ["_law_pen_here", "_law_case", "_law_rule_so", "_law_spot", "_law_low"] []) (G_odd : FnOk P w K mg base CX0 6 fOd fdOd ["_law_pen_here", "_law_case", "_law_rule_so", "_law_spot", "_law_low"] (spOdd CT CF CD))
    (oF : PySem.W.findIn K (.ref CF) "__eq__" = some (some (.ref fEF))) (iF : PySem.W.isFn K (.ref fEF) = true) (sF : PySem.W.findIn K (.ref CF) "__ne__" = some (some (.builtin "object.__ne__"))) (G_eqF : FnOk P w K mg base CX0 1 fEF fdEF ["self", "other"] (spEqR K CF)) (bF : L2.Binds K fdEF ["self", "other"] [])
    (oD : PySem.W.findIn K (.ref CD) "__eq__" = some (some (.ref fED))) (iD : PySem.W.isFn K (.ref fED) = true) (sD : PySem.W.findIn K (.ref CD) "__ne__" = some (some (.builtin "object.__ne__"))) (G_eqD : FnOk P w K mg base CX0 1 fED fdED ["self", "other"] (spEqR K CD)) (bD : L2.Binds K fdED ["self", "other"] [])
    (oT : PySem.W.findIn K (.ref CT) "__eq__" = some (some (.ref fET))) (iT : PySem.W.isFn K (.ref fET) = true) (sT : PySem.W.findIn K (.ref CT) "__ne__" = some (some (.builtin "object.__ne__"))) (tyT : TyC K CT) (G_eqT : FnOk P w K mg base CX0 1 fET fdET ["self", "other"] (spEqT K CT)) (bT : L2.Binds K fdET ["self", "other"] []) : FnG P w K mg base CX0 12 f fd ["_law_script"] (spLaw K) := by
  have G_pen : FnOk P w K mg base CX0 1 fPn fdPn ["_law_script"] (spPen K) := ok_pen Pn U
  have G_parts : FnOk P w K mg base CX0 3 fPa fdPa ["_law_pen_here", "_law_most"] spParts := ok_parts Pa U D gD b_draw Pk gP b_pick
  have G_due : FnOk P w K mg base CX0 2 fDu fdDu ["_law_case", "_law_parts_here", "_law_spot", "_law_low"] (spDue CT) := ok_due Du U Lt gLt b_left Wor gWor b_worth
  have G_kb : FnOk P w K mg base CX0 1 fKb fdKb ["self"] (spBl true) := ok_kb Kb
  have G_tb : FnOk P w K mg base CX0 1 fTb fdTb ["self"] (spBl false) := ok_tb Tb
  refine funG F sc_law (fun vs H Q E h => ?_) (fun cdv A outer s H vs Q E _ hr hg h => ?_)
  · obtain ⟨a, ns, rfl, _⟩ := h
    rfl
  · obtain ⟨a0, ns0, rfl, hs, few0, fin⟩ := h
    refine ⟨_, (pss_cons (ps_set (i := 1) sc_law.nd rfl (Or.inl rfl) (pe_call G_pen (hr.mono (by decide)) rfl gPn Pn.kp b_pen .nil pass0 (by exact (pa_cons (pv 0) pa_nil))))
  (C8.pss_cut (ps_for PassesOwn.never rfl (pi_range1 rfl U.z_range (by exact (pa_cons pe_int pa_nil))) (pg_name (i := 2) sc_law.nd rfl (Or.inl rfl)) (pss_cons (ps_asg (pe_tup (by exact (pa_cons (pe_call G_table (hr.mono (by decide)) rfl gTa Ta.kp b_table .nil pass0 (by exact (pa_cons (pv 1) pa_nil))) (pa_cons (pe_call G_parts (hr.mono (by decide)) rfl gPa Pa.kp b_parts .nil pass0 (by exact (pa_cons (pv 1) (pa_cons pe_int pa_nil)))) pa_nil)))) (pg_tup rfl (pgs_cons (pg_name (i := 6) sc_law.nd rfl (Or.inr rfl)) (pgs_cons (pg_name (i := 7) sc_law.nd rfl (Or.inr rfl)) pgs_nil))))
  (pss_cons (ps_set (i := 3) sc_law.nd rfl (Or.inr rfl) (pe_call G_rule (hr.mono (by decide)) rfl gRu Ru.kp b_rule .nil pass0 (by exact (pa_cons (pv 7) pa_nil))))
  (C8.pss_cut (ps_for PassesOwn.never rfl (pi_range1 rfl U.z_range (by exact (pa_cons pe_int pa_nil))) (pg_name (i := 4) sc_law.nd rfl (Or.inr rfl)) (pss_cons (ps_setLc (i := 8) (own := [("_law_low", 9)]) rfl sc_law.nd rfl rfl (sw_true rfl rfl rfl (by decide +kernel)) (pi_range1 rfl U.z_range (by exact (pa_cons pe_int pa_nil))) (blkOk_by (by kernel_rfl)) (fun s_ H_ C_ cl_ fp_ => (pg_name (i := 9) sc_law.nd rfl (Or.inl rfl))) (fun s_ H_ C_ cl_ fp_ => pts_nil) (fun s_ H_ C_ cl_ fp_ => (pe_call G_sh (hr.mono (by decide)) rfl gSh Sh.kp b_sh .nil pass0 (by exact (pa_cons (pe_ix (show IxR _ (rIxT K) from ix_tup) (pv 6) pe_int (fun _ _ => rfl)) (pa_cons (pv 3) (pa_cons (pv 4) (pa_cons (pv 9) pa_nil))))))))
  (pss_one (ps_if (pt_cmpR (op_neD hr.units) (pv 8) (pe_lc (own := [("_law_low", 9)]) rfl sc_law.nd (pi_range1 rfl U.z_range (by exact (pa_cons pe_int pa_nil))) (blkOk_by (by kernel_rfl)) (fun s_ H_ C_ cl_ fp_ => (pg_name (i := 9) sc_law.nd rfl (Or.inl rfl))) (fun s_ H_ C_ cl_ fp_ => pts_nil) (fun s_ H_ C_ cl_ fp_ => (pe_call G_due (hr.mono (by decide)) rfl gDu Du.kp b_due .nil pass0 (by exact (pa_cons (pv 6) (pa_cons (pv 7) (pa_cons (pv 4) (pa_cons (pv 9) pa_nil)))))))) (nomark _)) (pss_one (ps_ret pe_bl)) pss_nil))))
  (pss_cons (ps_set (i := 5) sc_law.nd rfl (Or.inl rfl) (pe_call G_kw (hr.mono (by decide)) rfl gKw Kw.kp b_kw .nil pass0 (by exact (pa_cons (pe_ix ix_tup (pv 6) pe_int (fun _ _ => rfl)) (pa_cons (pv 3) pa_nil)))))
  (C8.pss_cut (ps_if (pt_not (pt_truthR (pv 5) (TruR.or (truO oKb iKb G_kb b_kb (hr.mono (by decide))) (truO oTb iTb G_tb b_tb (hr.mono (by decide)))) (by intro _; rfl))) (pss_one (ps_if (pt_cmpR op_notBl (pe_callK0 G_sh (hr.mono (by decide)) rfl gSh Sh.kp bk_sh pass0 (pk_cons (pe_fld (pv 5) rfl) (pk_cons (pe_fld (pv 5) rfl) (pk_cons (pv 3) (pk_cons (pe_ix ix_tup (pv 6) pe_int (fun _ _ => rfl)) pk_nil))))) pe_bl (nomark _)) (pss_one (ps_ret pe_bl)) pss_nil)) pss_nil)
  (pss_cons (ps_if (pt_not (pt_val (pe_call G_far (hr.mono (by decide)) rfl gFa Fa.kp b_far .nil pass0 (by exact (pa_cons (pv 1) (pa_cons (pv 6) (pa_cons (pv 7) (pa_cons (pv 3) pa_nil)))))))) (pss_one (ps_ret pe_bl)) pss_nil)
  (pss_cons (ps_if (pt_not (pt_val (pe_call G_odd (hr.mono (by decide)) rfl gOd Od.kp b_odd .nil pass0 (by exact (pa_cons (pv 1) (pa_cons (pv 6) (pa_cons (pv 3) (pa_cons pe_int (pa_cons pe_int pa_nil))))))))) (pss_one (ps_ret pe_bl)) pss_nil)
  (pss_one (ps_if (PW.pt (pw_or (pt_cmpR (op_neO oT iT sT tyT.gm G_eqT bT (hr.mono (by decide))) (pe_ix ix_tup (pv 6) pe_int (fun _ _ => rfl)) (pe_box (pe_make MkT G_ti (hr.mono (by decide)) rfl gTab b_ti .nil pass0 (by exact (pa_cons (pe_ix ix_tup (pv 6) pe_int (fun _ _ => rfl)) (pa_cons (pe_op op_sub (pe_callB call_len rfl U.z_len (by decide +kernel) (pa_cons (pe_ix ix_tup (pv 6) pe_int (fun _ _ => rfl)) pa_nil)) (pe_ix ix_tup (pv 6) pe_int (fun _ _ => rfl))) (pa_cons (pe_ix ix_tup (pv 6) pe_int (fun _ _ => rfl)) pa_nil)))))) (nomark _)) (pw_or1 (pt_cmpR (op_neR oF iF sF PQ.tyF.gm G_eqF bF oD iD sD PQ.tyD.gm G_eqD bD (hr.mono (by decide))) (pv 3) (pe_call G_rule (hr.mono (by decide)) rfl gRu Ru.kp b_rule .nil pass0 (by exact (pa_cons (pv 7) pa_nil))) (nomark _))))) (pss_one (ps_ret pe_bl)) pss_nil))))))))))
  (pss_one (ps_ret pe_bl)))), ?_⟩
    have sz : (10000 : Nat) ≤ sizeLine := by show 10000 ≤ 16777216; decide
    refine ⟨_, rfl, a0, ns0, rfl, hs, few0, fun H0 p q hp0 hq0 pen0 same0 => ?_⟩
    refine ⟨fun σ' H' => True, ?_, ?_⟩
    · refine ⟨5, rfl, by decide, by decide, for_range (lo := 0) (n := 5) (fun i σ' H' => ∃ v2 v3 v4 v5 v6 v7 v8 : Option V, σ' = [some (.ref a0), some (.ref p), v2, v3, v4, v5, v6, v7, v8, none] ∧ PenAt (40 * i) H' p q) ⟨_, _, _, _, _, _, _, rfl, pen0⟩ ?_ (fun _ _ _ => True.intro)⟩
      rintro i σ' H1 hi ⟨v2, v3, v4, v5, v6, v7, v8, rfl, pen1⟩
      refine hide fun R1 k1 => ?_
      refine ⟨_, rfl, 40 * i, p, q, rfl, pen1, by omega, fun H2 c a ns pen2 m2 ca2 ok => ?_⟩
      refine ⟨_, rfl, 40 * i + 12, p, q, 6, rfl, pen2, by omega, by decide, by decide, fun H3 tp d pen3 m3 un3 htp3 wf bF bD => ?_⟩
      refine ⟨by show 2 ≤ sizeLine; omega, fun t ht => ⟨t, _, rfl, SqT.of upd_same, rfl, _, _, rfl, _, _, rfl, rfl, ?_⟩⟩
      refine k1 _ _ ?_
      refine hide fun R2 k2 => ?_
      have st := Same.new (o := .tup [V.ref c, .ref tp]) ht
      have pen4 := pen3.new (o := .tup [V.ref c, .ref tp]) ht
      have ca4 := (ca2.mv pen2 m3).same st
      have htp4 := st _ _ htp3
      refine ⟨_, rfl, tp, d, rfl, htp4, wf, fun H5 y s5 un5 ra5 => ?_⟩
      refine k2 _ _ ?_
      have pen5 := pen4.same s5
      have ca5 := ca4.same s5
      have htp5 := s5 _ _ htp4
      have n1 := ok.told.n1
      have fewn := ok.few
      have st20 : d.start ≤ 20 := by
        cases d with
        | fixed s r m l =>
          obtain ⟨q1, q2⟩ := bF rfl
          have q3 : s ≤ 6 := q1
          have q4 : l ≤ (if (6 : Int) ≤ 2 then 2 else 6 - 1) := q2
          rw [if_neg (by decide)] at q4
          show s + l ≤ 20
          omega
        | down t' r m =>
          have q1 : t' < 6 := bD rfl
          show t' + 1 ≤ 20
          omega
      refine ⟨fun σ' H' => ∃ v4 v5 v8 : Option V, σ' = [some (.ref a0), some (.ref p), some (.int (0 + (i : Nat))), some (.ref y), v4, v5, some (.ref c), some (.ref tp), v8, none] ∧ Same H5 H', ?_, ?_⟩
      · refine ⟨20, rfl, by decide, by decide, for_range (lo := 0) (n := 20) (fun k σ' H' => ∃ v4 v5 v8 : Option V, σ' = [some (.ref a0), some (.ref p), some (.int (0 + (i : Nat))), some (.ref y), v4, v5, some (.ref c), some (.ref tp), v8, none] ∧ Same H5 H') ⟨_, _, _, rfl, fun _ _ z => z⟩ ?_ (fun _ _ z => z)⟩
        rintro k σ' H6 hk ⟨v4, v5, v8, rfl, s6⟩
        have s0 : (0 : Int) ≤ 0 + (k : Nat) := by omega
        have sg : (0 : Int) + (k : Nat) ≤ great := by
          have z : (20 : Int) ≤ great := by decide
          omega
        refine hide fun R3 k3 => ?_
        refine ⟨20, rfl, by decide, by decide, fun D hD => ?_⟩
        refine lc_range (lo := 0) (n := 20) (fun j H' => Same H6 H' ∧ H' D = some (.lst ((dueRow (atW ns a (ns.length - a)) d (0 + (k : Nat)) j).map V.bl))) ⟨Same.new hD, upd_same⟩ (fun j H' hj q => ?_) (fun H7 q => ?_)
        · refine ⟨rfl, ?_⟩
          refine iteT (B := Same H6 H' ∧ H' D = some (.lst ((dueRow (atW ns a (ns.length - a)) d (0 + (k : Nat)) (j + 1)).map V.bl))) ?_
          obtain ⟨x, l, hc, smt, hl⟩ := ca5.same (s6.trans q.1)
          have ra6 := ra5.same (s6.trans q.1)
          refine ⟨_, rfl, c, _, _, _, rfl, rfl, SqT.of hc, rfl, _, rfl, _, rfl, _, rfl, x, y, _, d, .int (0 + (k : Nat)), .int (0 + (j : Nat)), rfl, smt, ra6, wf, it_int, it_int, ?_⟩
          rw [shows_due s0 sg]
          refine ⟨_, q.2, by rw [List.length_map, dueRow_len]; show _ < 16777216; omega, fun b o e => ?_, ?_⟩
          · have nb : b ≠ D := fun z => by rw [z, hD] at e; cases e
            rw [upd_ne nb]
            exact q.1 b o e
          · rw [upd_same, dueRow_succ, List.map_append]
            rfl
        refine k3 _ _ ?_
        obtain ⟨s7, hD7⟩ := q
        have s67 := s6.trans s7
        refine ⟨_, rfl, 20, rfl, by decide, by decide, fun D2 hD2 => ?_⟩
        refine lc_range (lo := 0) (n := 20) (fun j H' => Same H7 H' ∧ H' D2 = some (.lst ((dueRow (atW ns a (ns.length - a)) d (0 + (k : Nat)) j).map V.bl))) ⟨Same.new hD2, upd_same⟩ (fun j H' hj q => ?_) (fun H8 q => ?_)
        · refine ⟨rfl, ?_⟩
          refine iteT (B := Same H7 H' ∧ H' D2 = some (.lst ((dueRow (atW ns a (ns.length - a)) d (0 + (k : Nat)) (j + 1)).map V.bl))) ?_
          have s8 := s67.trans q.1
          refine ⟨_, rfl, _, rfl, _, rfl, _, rfl, c, tp, a, ns, d, 0 + (k : Nat), 0 + (j : Nat), rfl, ca5.same s8, ok, s8 _ _ htp5, wf, s0, by omega, ?_⟩
          refine ⟨_, q.2, by rw [List.length_map, dueRow_len]; show _ < 16777216; omega, fun b o e => ?_, ?_⟩
          · have nb : b ≠ D2 := fun z => by rw [z, hD2] at e; cases e
            rw [upd_ne nb]
            exact q.1 b o e
          · rw [upd_same, dueRow_succ, List.map_append]
            rfl
        refine ne_bools (q.1 _ _ hD7) q.2 ⟨_, rfl, ?_⟩
        refine ite2 (fun z => by rw [decide_eq_true rfl] at z; cases z) (fun _ => ?_)
        exact ⟨_, _, _, rfl, s67.trans q.1⟩
      rintro σ' H6 ⟨v4, v5, v8, rfl, s6⟩
      have ca6 := ca5.same s6
      have ra6 := ra5.same s6
      obtain ⟨x, l, hc6, smt6, hl6⟩ := id ca6
      refine hide fun R4 k4 => ?_
      refine ⟨_, rfl, c, _, _, _, rfl, rfl, SqT.of hc6, rfl, _, rfl, x, y, _, d, rfl, smt6, ra6, wf, st20, fun H7 z s7 fo => ?_⟩
      refine k4 _ _ ?_
      refine ⟨fun σ' H' => ∃ v4 v5 v8 : Option V, σ' = [some (.ref a0), some (.ref p), some (.int (0 + (i : Nat))), some (.ref y), v4, v5, some (.ref c), some (.ref tp), v8, none] ∧ H' = H7, ?_, ?_⟩
      · rcases fo with ⟨dz, fs, hz⟩ | ⟨dz, h, lo, hz, sb, el, w0, w1, hg0, lg0⟩
        · exact ⟨_, rfl, .inl ⟨z, dz, fs, rfl, hz, rfl, _, rfl, iteF ⟨_, _, _, rfl, rfl⟩⟩⟩
        · refine ⟨_, rfl, .inr ⟨z, dz, _, rfl, hz, rfl, _, rfl, iteT ?_⟩⟩
          refine ⟨_, rfl, z, CU, dz, _, _, rfl, hz, KU.cl, KU.nLeft, rfl, _, rfl, z, CU, dz, _, _, rfl, hz, KU.cl, KU.nHeap, rfl, _, rfl, _, rfl, c, _, _, _, rfl, rfl, SqT.of (s7 _ _ hc6), rfl, rfl, x, y, _, d, .int (h : Nat), .int (lo : Nat), rfl, smt6.same s7, ra6.same s7, wf, it_int, it_int, ?_⟩
          have eD : dueHL (atW ns a (ns.length - a)) d (h : Nat) (lo : Nat) = true := by
            unfold dueHL
            rw [sb, decide_eq_true el, Int.toNat_natCast, Int.toNat_natCast, decide_eq_true w0, decide_eq_true w1]
            rfl
          rw [shows_due (by omega) hg0, eD]
          exact ⟨true, true, rfl, rfl, _, rfl, iteF ⟨_, _, _, rfl, rfl⟩⟩
      rintro σ' H' ⟨v4, v5, v8, rfl, rfl⟩
      have s57 := s6.trans s7
      have pen7 := pen5.same s57
      have ca7 := ca5.same s57
      have ra7 := ra5.same s57
      have htp7 := s57 _ _ htp5
      refine hide fun R5 k5 => ?_
      refine ⟨_, rfl, _, rfl, _, rfl, _, rfl, 40 * i + 18, p, q, c, tp, y, a, ns, d, rfl, pen7, by omega, ca7, ok, htp7, ra7, wf, fun H8 pen8 m8 => ⟨_, rfl, iteF ?_⟩⟩
      refine k5 _ _ ?_
      have ca8 := ca7.mv pen7 m8
      have ra8 := ra7.mv pen7 m8
      have htp8 := tup_mvN htp7 pen7 m8.toN
      refine hide fun R6 k6 => ?_
      refine ⟨_, rfl, _, rfl, _, rfl, 40 * i + 30, p, q, c, y, a, ns, d, rfl, pen8, by omega, ca8, ok, ra8, wf, fun H9 pen9 m9 => ⟨_, rfl, iteF ?_⟩⟩
      refine k6 _ _ ?_
      have ra9 := ra8.mv pen8 m9
      have htp9 := tup_mvN htp8 pen8 m9.toN
      obtain ⟨x9, l9, hc9, ⟨b, pe, at9, fo9, le9⟩, hl9⟩ := ca8.mv pen8 m9
      have lL : LenV K (.ref l9) H9 ns.length := by
        have q := SeqAt2.len (K := K) (SqB.ii (t := false) (show SqB false H9 l9 (ns.map V.int) from hl9))
        rw [List.length_map] at q
        exact q
      refine ⟨_, rfl, c, _, _, _, rfl, rfl, SqT.of hc9, rfl, ?_⟩
      refine tab_box (fun R k => ⟨_, rfl, c, _, _, _, rfl, rfl, SqT.of hc9, rfl, _, rfl, c, _, _, _, rfl, rfl, SqT.of hc9, rfl, _, _, rfl, lL, _, rfl, c, _, _, _, rfl, rfl, SqT.of hc9, rfl, _, _, rfl, rfl, _, rfl, c, _, _, _, rfl, rfl, SqT.of hc9, rfl, k⟩) (a := a) (n := ns.length - a) rfl (by omega) hl9 ok.told ok.z0 (by omega) (by omega) fun H10 x2 b2 p2 s10 f2 le2 at2 => ?_
      obtain ⟨rfl, rfl⟩ := fo9.uniq f2
      refine neT_is TC tyT (at9.same s10) at2 ⟨_, rfl, ?_⟩
      refine ite2 (fun z => by rw [decide_eq_true ⟨rfl, rfl, rfl⟩] at z; cases z) (fun _ => ?_)
      refine ⟨_, rfl, _, rfl, tp, d, rfl, s10 _ _ htp9, wf, fun H11 y2 s11 un11 ra11 => ?_⟩
      exact ne_same PQ ((ra9.same s10).same s11) ra11 ⟨_, rfl, iteF ⟨_, _, _, _, _, _, _, rfl, ((pen9.same s10).same s11).more (by omega)⟩⟩
    · rintro σ' H' _
      exact fin H'

end
end Fz
set_option Elab.async false
set_option linter.all false
set_option maxRecDepth 100000
set_option maxHeartbeats 2000000
namespace Fz
open PySem PySem.Spec PyProof.Rows L2
theorem kbSh {K : PySem.W.Frag} {f : Addr} {fd : FuncData} (F : Fun K "shows_turned" "shows_turned" s_sh f fd) : KBn K fd ["table", "rule", "heap", "left"] 0 ["left", "heap", "rule", "table"] (fun us ws => us ++ ws.reverse) (fun vs zs => vs ++ zs.reverse) := by
  obtain ⟨oc, od, kV, doc, pm, an, cdv, ct, osl, rfl, lk, hcd⟩ := F.ex
  refine ⟨fun s us ws _ l1 l2 => ?_, fun r1 r2 => r1.append r2.reverse⟩
  obtain ⟨a, b, c, d, rfl⟩ := ex4 ws l2
  cases us with
  | nil => exact .of_eq rfl
  | cons a r => cases l1
theorem all_mk {l : PySem.W.OpenLaw} {w : World} {K : PySem.W.Frag} {h : Heap} {mg mb : Str → Option Value} {fa : Addr} {qp : Program} {lo : List Str} {mean : ExcName → Option Value} (X : K.In h) (Tp : Top qp lo mean mg mb h) (hfa : mg "law" = some (.ref fa))
    {CRl : Addr}
    {CRs : Addr}
    {CF : Addr}
    {CD : Addr}
    {CSz : Addr}
    {fN : Addr}
    {odN anN : Option Addr} {slN : Array (Option Value)} {ocN kVN dcN pmN cdN ctN : Value}
    {fRK : Addr}
    {odRK anRK : Option Addr} {slRK : Array (Option Value)} {ocRK kVRK dcRK pmRK cdRK ctRK : Value}
    {fRs : Addr}
    {odRs anRs : Option Addr} {slRs : Array (Option Value)} {ocRs kVRs dcRs pmRs cdRs ctRs : Value}
    {fSz : Addr}
    {odSz anSz : Option Addr} {slSz : Array (Option Value)} {ocSz kVSz dcSz pmSz cdSz ctSz : Value}
    {fFx : Addr}
    {odFx anFx : Option Addr} {slFx : Array (Option Value)} {ocFx kVFx dcFx pmFx cdFx ctFx : Value}
    {fDn : Addr}
    {odDn anDn : Option Addr} {slDn : Array (Option Value)} {ocDn kVDn dcDn pmDn cdDn ctDn : Value}
    {TdFx : Addr} {ocdFx : Value} {oddFx : Option Addr} {ndFx : Nat} {sldFx : Array (Option Value)} {tdFx0 tdFx1 tdFx2 : Tok}
    {TdDn : Addr} {ocdDn : Value} {oddDn : Option Addr} {ndDn : Nat} {sldDn : Array (Option Value)} {tdDn0 tdDn1 : Tok}
    {t_CRl_MOST : Tok}
    {t_CRl_MOST_MODULUS : Tok}
    {fEF : Addr}
    {odEF anEF : Option Addr} {slEF : Array (Option Value)} {ocEF kVEF dcEF pmEF cdEF ctEF : Value}
    {fED : Addr}
    {odED anED : Option Addr} {slED : Array (Option Value)} {ocED kVED dcED pmED cdED ctED : Value}
    {fPn : Addr}
    {odPn anPn : Option Addr} {slPn : Array (Option Value)} {ocPn kVPn dcPn pmPn cdPn ctPn : Value}
    {fD : Addr}
    {odD anD : Option Addr} {slD : Array (Option Value)} {ocD kVD dcD pmD cdD ctD : Value}
    {fPk : Addr}
    {odPk anPk : Option Addr} {slPk : Array (Option Value)} {ocPk kVPk dcPk pmPk cdPk ctPk : Value}
    {CT : Addr}
    {CK : Addr}
    {CU : Addr}
    {fCr : Addr}
    {odCr anCr : Option Addr} {slCr : Array (Option Value)} {ocCr kVCr dcCr pmCr cdCr ctCr : Value}
    {fLp : Addr}
    {odLp anLp : Option Addr} {slLp : Array (Option Value)} {ocLp kVLp dcLp pmLp cdLp ctLp : Value}
    {fTf : Addr}
    {odTf anTf : Option Addr} {slTf : Array (Option Value)} {ocTf kVTf dcTf pmTf cdTf ctTf : Value}
    {fCs : Addr}
    {odCs anCs : Option Addr} {slCs : Array (Option Value)} {ocCs kVCs dcCs pmCs cdCs ctCs : Value}
    {fPo : Addr}
    {odPo anPo : Option Addr} {slPo : Array (Option Value)} {ocPo kVPo dcPo pmPo cdPo ctPo : Value}
    {fFt : Addr}
    {odFt anFt : Option Addr} {slFt : Array (Option Value)} {ocFt kVFt dcFt pmFt cdFt ctFt : Value}
    {fBm : Addr}
    {odBm anBm : Option Addr} {slBm : Array (Option Value)} {ocBm kVBm dcBm pmBm cdBm ctBm : Value}
    {fKw : Addr}
    {odKw anKw : Option Addr} {slKw : Array (Option Value)} {ocKw kVKw dcKw pmKw cdKw ctKw : Value}
    {fSh : Addr}
    {odSh anSh : Option Addr} {slSh : Array (Option Value)} {ocSh kVSh dcSh pmSh cdSh ctSh : Value}
    {fSt : Addr}
    {odSt anSt : Option Addr} {slSt : Array (Option Value)} {ocSt kVSt dcSt pmSt cdSt ctSt : Value}
    {fPa : Addr}
    {odPa anPa : Option Addr} {slPa : Array (Option Value)} {ocPa kVPa dcPa pmPa cdPa ctPa : Value}
    {fRu : Addr}
    {odRu anRu : Option Addr} {slRu : Array (Option Value)} {ocRu kVRu dcRu pmRu cdRu ctRu : Value}
    {fLe : Addr}
    {odLe anLe : Option Addr} {slLe : Array (Option Value)} {ocLe kVLe dcLe pmLe cdLe ctLe : Value}
    {fTa : Addr}
    {odTa anTa : Option Addr} {slTa : Array (Option Value)} {ocTa kVTa dcTa pmTa cdTa ctTa : Value}
    {fWr : Addr}
    {odWr anWr : Option Addr} {slWr : Array (Option Value)} {ocWr kVWr dcWr pmWr cdWr ctWr : Value}
    {fDu : Addr}
    {odDu anDu : Option Addr} {slDu : Array (Option Value)} {ocDu kVDu dcDu pmDu cdDu ctDu : Value}
    {fFa : Addr}
    {odFa anFa : Option Addr} {slFa : Array (Option Value)} {ocFa kVFa dcFa pmFa cdFa ctFa : Value}
    {fOd : Addr}
    {odOd anOd : Option Addr} {slOd : Array (Option Value)} {ocOd kVOd dcOd pmOd cdOd ctOd : Value}
    {fTi : Addr}
    {odTi anTi : Option Addr} {slTi : Array (Option Value)} {ocTi kVTi dcTi pmTi cdTi ctTi : Value}
    {fET : Addr}
    {odET anET : Option Addr} {slET : Array (Option Value)} {ocET kVET dcET pmET cdET ctET : Value}
    {fWo : Addr}
    {odWo anWo : Option Addr} {slWo : Array (Option Value)} {ocWo kVWo dcWo pmWo cdWo ctWo : Value}
    {fGi : Addr}
    {odGi anGi : Option Addr} {slGi : Array (Option Value)} {ocGi kVGi dcGi pmGi cdGi ctGi : Value}
    {fFw : Addr}
    {odFw anFw : Option Addr} {slFw : Array (Option Value)} {ocFw kVFw dcFw pmFw cdFw ctFw : Value}
    {fKi : Addr}
    {odKi anKi : Option Addr} {slKi : Array (Option Value)} {ocKi kVKi dcKi pmKi cdKi ctKi : Value}
    {fKb : Addr}
    {odKb anKb : Option Addr} {slKb : Array (Option Value)} {ocKb kVKb dcKb pmKb cdKb ctKb : Value}
    {fTu : Addr}
    {odTu anTu : Option Addr} {slTu : Array (Option Value)} {ocTu kVTu dcTu pmTu cdTu ctTu : Value}
    {fTb : Addr}
    {odTb anTb : Option Addr} {slTb : Array (Option Value)} {ocTb kVTb dcTb pmTb cdTb ctTb : Value}
    {fLr : Addr}
    {odLr anLr : Option Addr} {slLr : Array (Option Value)} {ocLr kVLr dcLr pmLr cdLr ctLr : Value}
    {fLd : Addr}
    {odLd anLd : Option Addr} {slLd : Array (Option Value)} {ocLd kVLd dcLd pmLd cdLd ctLd : Value}
    {tMO : Tok}
    {tMW : Tok}
    {tBG : Tok}
    {fL : Addr}
    {odL anL : Option Addr} {slL : Array (Option Value)} {ocL kVL dcL pmL cdL ctL : Value}
    (gRl : PySem.W.nsIn K mainGlobals "Rule" = some (some (.ref CRl)))
    (gRs : PySem.W.nsIn K mainGlobals "Rested" = some (some (.ref CRs)))
    (gF : PySem.W.nsIn K mainGlobals "Fixed" = some (some (.ref CF)))
    (gDn : PySem.W.nsIn K mainGlobals "Down" = some (some (.ref CD)))
    (gSz : PySem.W.nsIn K mainGlobals "Sized" = some (some (.ref CSz)))
    (aN : PySem.W.nsIn K mainGlobals "is_number" = some (some (.ref fN)))
    (lN : K.lookup fN = some ⟨ocN, odN, .func (PySem.W.fnOf "is_number" "is_number" (defArgs s_is_number) (defBody s_is_number) (defScope s_is_number) .none kVN dcN pmN anN cdN ctN), slN⟩)
    (cN : PySem.W.codeIn K cdN "is_number" = true)
    (kN : PySem.W.keepIn K (.ref fN) = true)
    (aRK : PySem.W.nsIn K mainGlobals "rank_of" = some (some (.ref fRK)))
    (lRK : K.lookup fRK = some ⟨ocRK, odRK, .func (PySem.W.fnOf "rank_of" "rank_of" (defArgs s_rank_of) (defBody s_rank_of) (defScope s_rank_of) .none kVRK dcRK pmRK anRK cdRK ctRK), slRK⟩)
    (cRK : PySem.W.codeIn K cdRK "rank_of" = true)
    (kRK : PySem.W.keepIn K (.ref fRK) = true)
    (aRs : PySem.W.findCls K (.ref CRs) (.type "type") "__init__" = some (.val (.ref fRs)))
    (lRs : K.lookup fRs = some ⟨ocRs, odRs, .func (PySem.W.fnOf "__init__" "Rested.__init__" (defArgs s_rested) (defBody s_rested) (defScope s_rested) .none kVRs dcRs pmRs anRs cdRs ctRs), slRs⟩)
    (cRs : PySem.W.codeIn K cdRs "Rested.__init__" = true)
    (kRs : PySem.W.keepIn K (.ref fRs) = true)
    (aSz : PySem.W.findCls K (.ref CSz) (.type "type") "__init__" = some (.val (.ref fSz)))
    (lSz : K.lookup fSz = some ⟨ocSz, odSz, .func (PySem.W.fnOf "__init__" "Sized.__init__" (defArgs s_sized) (defBody s_sized) (defScope s_sized) .none kVSz dcSz pmSz anSz cdSz ctSz), slSz⟩)
    (cSz : PySem.W.codeIn K cdSz "Sized.__init__" = true)
    (kSz : PySem.W.keepIn K (.ref fSz) = true)
    (aFx : PySem.W.findIn K (.ref CF) "__init__" = some (some (.ref fFx)))
    (lFx : K.lookup fFx = some ⟨ocFx, odFx, .func (PySem.W.fnOf "__init__" "Fixed.__init__" (defArgs s_fixed) (defBody s_fixed) (defScope s_fixed) (.ref TdFx) kVFx dcFx pmFx anFx cdFx ctFx), slFx⟩)
    (cFx : PySem.W.codeIn K cdFx "Fixed.__init__" = true)
    (kFx : PySem.W.keepIn K (.ref fFx) = true)
    (aDn : PySem.W.findIn K (.ref CD) "__init__" = some (some (.ref fDn)))
    (lDn : K.lookup fDn = some ⟨ocDn, odDn, .func (PySem.W.fnOf "__init__" "Down.__init__" (defArgs s_down) (defBody s_down) (defScope s_down) (.ref TdDn) kVDn dcDn pmDn anDn cdDn ctDn), slDn⟩)
    (cDn : PySem.W.codeIn K cdDn "Down.__init__" = true)
    (kDn : PySem.W.keepIn K (.ref fDn) = true)
    (ldFx : K.lookup TdFx = some ⟨ocdFx, oddFx, .seq ([.int 0 tdFx0, .int 1 tdFx1, .int 0 tdFx2] : List Value).toArray ndFx, sldFx⟩)
    (ldDn : K.lookup TdDn = some ⟨ocdDn, oddDn, .seq ([.int 0 tdDn0, .int 1 tdDn1] : List Value).toArray ndDn, sldDn⟩)
    (rdCRl : PySem.W.readsIn K CRl (.type "type") = true)
    (gaCRl : PySem.W.specialIn K (.ref CRl) "__getattribute__" = some (some (.builtin "type.__getattribute__")))
    (rdCRs : PySem.W.readsIn K CRs (.type "type") = true)
    (gaCRs : PySem.W.specialIn K (.ref CRs) "__getattribute__" = some (some (.builtin "type.__getattribute__")))
    (rdCSz : PySem.W.readsIn K CSz (.type "type") = true)
    (gaCSz : PySem.W.specialIn K (.ref CSz) "__getattribute__" = some (some (.builtin "type.__getattribute__")))
    (pgCF : PySem.W.plainGet K CF Str.empty = true)
    (hdCF : PySem.W.hasDictIn K CF = true)
    (poCF : PySem.W.plainOver K CF = true)
    (saCF : PySem.W.findIn K (.ref CF) "__setattr__" = some (some (.builtin "object.__setattr__")))
    (ntoCF : PySem.W.findIn K (.ref CF) "to" = some none)
    (nsizeCF : PySem.W.findIn K (.ref CF) "size" = some none)
    (nleaveCF : PySem.W.findIn K (.ref CF) "leave" = some none)
    (nrestCF : PySem.W.findIn K (.ref CF) "rest" = some none)
    (nmodulusCF : PySem.W.findIn K (.ref CF) "modulus" = some none)
    (nstartCF : PySem.W.findIn K (.ref CF) "start" = some none)
    (nrankCF : PySem.W.findIn K (.ref CF) "rank" = some none)
    (pgCD : PySem.W.plainGet K CD Str.empty = true)
    (hdCD : PySem.W.hasDictIn K CD = true)
    (poCD : PySem.W.plainOver K CD = true)
    (saCD : PySem.W.findIn K (.ref CD) "__setattr__" = some (some (.builtin "object.__setattr__")))
    (ntoCD : PySem.W.findIn K (.ref CD) "to" = some none)
    (nsizeCD : PySem.W.findIn K (.ref CD) "size" = some none)
    (nleaveCD : PySem.W.findIn K (.ref CD) "leave" = some none)
    (nrestCD : PySem.W.findIn K (.ref CD) "rest" = some none)
    (nmodulusCD : PySem.W.findIn K (.ref CD) "modulus" = some none)
    (nstartCD : PySem.W.findIn K (.ref CD) "start" = some none)
    (nrankCD : PySem.W.findIn K (.ref CD) "rank" = some none)
    (haCF : PySem.W.findIn K (.ref CF) "__class__" = some (some (.builtin "object.__class__")))
    (hn : PySem.W.specialIn K (.builtin "object.__class__") "__get__" = some (some (.builtin "getset_descriptor.__get__")))
    (htk : PySem.W.takesIn K (.builtin "object.__class__") = some true)
    (hmCF : PySem.W.mroIn K CF (.type "object") = some true)
    (haCD : PySem.W.findIn K (.ref CD) "__class__" = some (some (.builtin "object.__class__")))
    (hmCD : PySem.W.mroIn K CD (.type "object") = some true)
    (mkCF : PySem.W.makesIn K CF = true)
    (kpCF : PySem.W.keepIn K (.ref CF) = true)
    (iFFx : PySem.W.isFn K (.ref fFx) = true)
    (mkCD : PySem.W.makesIn K CD = true)
    (kpCD : PySem.W.keepIn K (.ref CD) = true)
    (iFDn : PySem.W.isFn K (.ref fDn) = true)
    (m_CRl_MOST : PySem.W.findCls K (.ref CRl) (.type "type") "MOST" = some (.val (.int 400 t_CRl_MOST)))
    (m_CRl_MOST_MODULUS : PySem.W.findCls K (.ref CRl) (.type "type") "MOST_MODULUS" = some (.val (.int 6 t_CRl_MOST_MODULUS)))
    (z_int : PySem.W.nsIn K mainGlobals "int" = some none)
    (z_len : PySem.W.nsIn K mainGlobals "len" = some none)
    (z_abs : PySem.W.nsIn K mainGlobals "abs" = some none)
    (z_list : PySem.W.nsIn K mainGlobals "list" = some none)
    (z_range : PySem.W.nsIn K mainGlobals "range" = some none)
    (z_isinstance : PySem.W.nsIn K mainGlobals "isinstance" = some none)
    (z_repr : PySem.W.nsIn K mainGlobals "repr" = some none)
    (z_bool : PySem.W.nsIn K mainGlobals "bool" = some none)
    (z_tuple : PySem.W.nsIn K mainGlobals "tuple" = some none)
    (z_str : PySem.W.nsIn K mainGlobals "str" = some none)
    (z_max : PySem.W.nsIn K mainGlobals "max" = some none)
    (z_min : PySem.W.nsIn K mainGlobals "min" = some none)
    (z_dict : PySem.W.nsIn K mainGlobals "dict" = some none)
    (z_set : PySem.W.nsIn K mainGlobals "set" = some none)
    (z_sorted : PySem.W.nsIn K mainGlobals "sorted" = some none)
    (z_sum : PySem.W.nsIn K mainGlobals "sum" = some none)
    (z_all : PySem.W.nsIn K mainGlobals "all" = some none)
    (z_any : PySem.W.nsIn K mainGlobals "any" = some none)
    (z_zip : PySem.W.nsIn K mainGlobals "zip" = some none)
    (z_enumerate : PySem.W.nsIn K mainGlobals "enumerate" = some none)
    (z_reversed : PySem.W.nsIn K mainGlobals "reversed" = some none)
    (aEF : PySem.W.findIn K (.ref CF) "__eq__" = some (some (.ref fEF)))
    (lEF : K.lookup fEF = some ⟨ocEF, odEF, .func (PySem.W.fnOf "__eq__" "Fixed.__eq__" (defArgs s_eqF) (defBody s_eqF) (defScope s_eqF) .none kVEF dcEF pmEF anEF cdEF ctEF), slEF⟩)
    (cEF : PySem.W.codeIn K cdEF "Fixed.__eq__" = true)
    (kEF : PySem.W.keepIn K (.ref fEF) = true)
    (aED : PySem.W.findIn K (.ref CD) "__eq__" = some (some (.ref fED)))
    (lED : K.lookup fED = some ⟨ocED, odED, .func (PySem.W.fnOf "__eq__" "Down.__eq__" (defArgs s_eqD) (defBody s_eqD) (defScope s_eqD) .none kVED dcED pmED anED cdED ctED), slED⟩)
    (cED : PySem.W.codeIn K cdED "Down.__eq__" = true)
    (kED : PySem.W.keepIn K (.ref fED) = true)
    (iFEF : PySem.W.isFn K (.ref fEF) = true)
    (neCF : PySem.W.findIn K (.ref CF) "__ne__" = some (some (.builtin "object.__ne__")))
    (tyCF : PySem.W.typeIn K (.ref CF) = some (.type "type"))
    (iFED : PySem.W.isFn K (.ref fED) = true)
    (neCD : PySem.W.findIn K (.ref CD) "__ne__" = some (some (.builtin "object.__ne__")))
    (tyCD : PySem.W.typeIn K (.ref CD) = some (.type "type"))
    (nFD : PySem.W.notFirst K CF (.ref CD) = true)
    (nDF : PySem.W.notFirst K CD (.ref CF) = true)
    (kt_CF_CF : PySem.W.kitOne K (.ref CF) (.ref CF) = some true)
    (kt_CF_CD : PySem.W.kitOne K (.ref CF) (.ref CD) = some false)
    (kt_CD_CF : PySem.W.kitOne K (.ref CD) (.ref CF) = some false)
    (kt_CD_CD : PySem.W.kitOne K (.ref CD) (.ref CD) = some true)
    (aPn : PySem.W.nsIn K mainGlobals "_law_pen" = some (some (.ref fPn)))
    (lPn : K.lookup fPn = some ⟨ocPn, odPn, .func (PySem.W.fnOf "_law_pen" "_law_pen" (defArgs s_pen) (defBody s_pen) (defScope s_pen) .none kVPn dcPn pmPn anPn cdPn ctPn), slPn⟩)
    (cPn : PySem.W.codeIn K cdPn "_law_pen" = true)
    (kPn : PySem.W.keepIn K (.ref fPn) = true)
    (aD : PySem.W.nsIn K mainGlobals "_law_draw" = some (some (.ref fD)))
    (lD : K.lookup fD = some ⟨ocD, odD, .func (PySem.W.fnOf "_law_draw" "_law_draw" (defArgs s_draw) (defBody s_draw) (defScope s_draw) .none kVD dcD pmD anD cdD ctD), slD⟩)
    (cD : PySem.W.codeIn K cdD "_law_draw" = true)
    (kD : PySem.W.keepIn K (.ref fD) = true)
    (aPk : PySem.W.nsIn K mainGlobals "_law_pick" = some (some (.ref fPk)))
    (lPk : K.lookup fPk = some ⟨ocPk, odPk, .func (PySem.W.fnOf "_law_pick" "_law_pick" (defArgs s_pick) (defBody s_pick) (defScope s_pick) .none kVPk dcPk pmPk anPk cdPk ctPk), slPk⟩)
    (cPk : PySem.W.codeIn K cdPk "_law_pick" = true)
    (kPk : PySem.W.keepIn K (.ref fPk) = true)
    (gT : PySem.W.nsIn K mainGlobals "Table" = some (some (.ref CT)))
    (gKe : PySem.W.nsIn K mainGlobals "Kept" = some (some (.ref CK)))
    (gTu : PySem.W.nsIn K mainGlobals "Turned" = some (some (.ref CU)))
    (aCr : PySem.W.nsIn K mainGlobals "check_row" = some (some (.ref fCr)))
    (lCr : K.lookup fCr = some ⟨ocCr, odCr, .func (PySem.W.fnOf "check_row" "check_row" (defArgs s_cr) (defBody s_cr) (defScope s_cr) .none kVCr dcCr pmCr anCr cdCr ctCr), slCr⟩)
    (cCr : PySem.W.codeIn K cdCr "check_row" = true)
    (kCr : PySem.W.keepIn K (.ref fCr) = true)
    (aLp : PySem.W.nsIn K mainGlobals "least_period" = some (some (.ref fLp)))
    (lLp : K.lookup fLp = some ⟨ocLp, odLp, .func (PySem.W.fnOf "least_period" "least_period" (defArgs s_lp) (defBody s_lp) (defScope s_lp) .none kVLp dcLp pmLp anLp cdLp ctLp), slLp⟩)
    (cLp : PySem.W.codeIn K cdLp "least_period" = true)
    (kLp : PySem.W.keepIn K (.ref fLp) = true)
    (aTf : PySem.W.nsIn K mainGlobals "least_form" = some (some (.ref fTf)))
    (lTf : K.lookup fTf = some ⟨ocTf, odTf, .func (PySem.W.fnOf "least_form" "least_form" (defArgs s_tf) (defBody s_tf) (defScope s_tf) .none kVTf dcTf pmTf anTf cdTf ctTf), slTf⟩)
    (cTf : PySem.W.codeIn K cdTf "least_form" = true)
    (kTf : PySem.W.keepIn K (.ref fTf) = true)
    (aCs : PySem.W.nsIn K mainGlobals "check_size" = some (some (.ref fCs)))
    (lCs : K.lookup fCs = some ⟨ocCs, odCs, .func (PySem.W.fnOf "check_size" "check_size" (defArgs s_cs) (defBody s_cs) (defScope s_cs) .none kVCs dcCs pmCs anCs cdCs ctCs), slCs⟩)
    (cCs : PySem.W.codeIn K cdCs "check_size" = true)
    (kCs : PySem.W.keepIn K (.ref fCs) = true)
    (aPo : PySem.W.nsIn K mainGlobals "place_of" = some (some (.ref fPo)))
    (lPo : K.lookup fPo = some ⟨ocPo, odPo, .func (PySem.W.fnOf "place_of" "place_of" (defArgs s_po) (defBody s_po) (defScope s_po) .none kVPo dcPo pmPo anPo cdPo ctPo), slPo⟩)
    (cPo : PySem.W.codeIn K cdPo "place_of" = true)
    (kPo : PySem.W.keepIn K (.ref fPo) = true)
    (aFt : PySem.W.nsIn K mainGlobals "first_told" = some (some (.ref fFt)))
    (lFt : K.lookup fFt = some ⟨ocFt, odFt, .func (PySem.W.fnOf "first_told" "first_told" (defArgs s_ft) (defBody s_ft) (defScope s_ft) .none kVFt dcFt pmFt anFt cdFt ctFt), slFt⟩)
    (cFt : PySem.W.codeIn K cdFt "first_told" = true)
    (kFt : PySem.W.keepIn K (.ref fFt) = true)
    (aBm : PySem.W.nsIn K mainGlobals "barred_marks" = some (some (.ref fBm)))
    (lBm : K.lookup fBm = some ⟨ocBm, odBm, .func (PySem.W.fnOf "barred_marks" "barred_marks" (defArgs s_bm) (defBody s_bm) (defScope s_bm) .none kVBm dcBm pmBm anBm cdBm ctBm), slBm⟩)
    (cBm : PySem.W.codeIn K cdBm "barred_marks" = true)
    (kBm : PySem.W.keepIn K (.ref fBm) = true)
    (aKw : PySem.W.nsIn K mainGlobals "keeps_winners" = some (some (.ref fKw)))
    (lKw : K.lookup fKw = some ⟨ocKw, odKw, .func (PySem.W.fnOf "keeps_winners" "keeps_winners" (defArgs s_kw) (defBody s_kw) (defScope s_kw) .none kVKw dcKw pmKw anKw cdKw ctKw), slKw⟩)
    (cKw : PySem.W.codeIn K cdKw "keeps_winners" = true)
    (kKw : PySem.W.keepIn K (.ref fKw) = true)
    (aSh : PySem.W.nsIn K mainGlobals "shows_turned" = some (some (.ref fSh)))
    (lSh : K.lookup fSh = some ⟨ocSh, odSh, .func (PySem.W.fnOf "shows_turned" "shows_turned" (defArgs s_sh) (defBody s_sh) (defScope s_sh) .none kVSh dcSh pmSh anSh cdSh ctSh), slSh⟩)
    (cSh : PySem.W.codeIn K cdSh "shows_turned" = true)
    (kSh : PySem.W.keepIn K (.ref fSh) = true)
    (aSt : PySem.W.nsIn K mainGlobals "stands" = some (some (.ref fSt)))
    (lSt : K.lookup fSt = some ⟨ocSt, odSt, .func (PySem.W.fnOf "stands" "stands" (defArgs s_st) (defBody s_st) (defScope s_st) .none kVSt dcSt pmSt anSt cdSt ctSt), slSt⟩)
    (cSt : PySem.W.codeIn K cdSt "stands" = true)
    (kSt : PySem.W.keepIn K (.ref fSt) = true)
    (aPa : PySem.W.nsIn K mainGlobals "_law_parts" = some (some (.ref fPa)))
    (lPa : K.lookup fPa = some ⟨ocPa, odPa, .func (PySem.W.fnOf "_law_parts" "_law_parts" (defArgs s_parts) (defBody s_parts) (defScope s_parts) .none kVPa dcPa pmPa anPa cdPa ctPa), slPa⟩)
    (cPa : PySem.W.codeIn K cdPa "_law_parts" = true)
    (kPa : PySem.W.keepIn K (.ref fPa) = true)
    (aRu : PySem.W.nsIn K mainGlobals "_law_rule" = some (some (.ref fRu)))
    (lRu : K.lookup fRu = some ⟨ocRu, odRu, .func (PySem.W.fnOf "_law_rule" "_law_rule" (defArgs s_rule) (defBody s_rule) (defScope s_rule) .none kVRu dcRu pmRu anRu cdRu ctRu), slRu⟩)
    (cRu : PySem.W.codeIn K cdRu "_law_rule" = true)
    (kRu : PySem.W.keepIn K (.ref fRu) = true)
    (aLe : PySem.W.nsIn K mainGlobals "_law_left" = some (some (.ref fLe)))
    (lLe : K.lookup fLe = some ⟨ocLe, odLe, .func (PySem.W.fnOf "_law_left" "_law_left" (defArgs s_left) (defBody s_left) (defScope s_left) .none kVLe dcLe pmLe anLe cdLe ctLe), slLe⟩)
    (cLe : PySem.W.codeIn K cdLe "_law_left" = true)
    (kLe : PySem.W.keepIn K (.ref fLe) = true)
    (aTa : PySem.W.nsIn K mainGlobals "_law_table" = some (some (.ref fTa)))
    (lTa : K.lookup fTa = some ⟨ocTa, odTa, .func (PySem.W.fnOf "_law_table" "_law_table" (defArgs s_tab) (defBody s_tab) (defScope s_tab) .none kVTa dcTa pmTa anTa cdTa ctTa), slTa⟩)
    (cTa : PySem.W.codeIn K cdTa "_law_table" = true)
    (kTa : PySem.W.keepIn K (.ref fTa) = true)
    (aWr : PySem.W.nsIn K mainGlobals "_law_worth" = some (some (.ref fWr)))
    (lWr : K.lookup fWr = some ⟨ocWr, odWr, .func (PySem.W.fnOf "_law_worth" "_law_worth" (defArgs s_wor) (defBody s_wor) (defScope s_wor) .none kVWr dcWr pmWr anWr cdWr ctWr), slWr⟩)
    (cWr : PySem.W.codeIn K cdWr "_law_worth" = true)
    (kWr : PySem.W.keepIn K (.ref fWr) = true)
    (aDu : PySem.W.nsIn K mainGlobals "_law_due" = some (some (.ref fDu)))
    (lDu : K.lookup fDu = some ⟨ocDu, odDu, .func (PySem.W.fnOf "_law_due" "_law_due" (defArgs s_due) (defBody s_due) (defScope s_due) .none kVDu dcDu pmDu anDu cdDu ctDu), slDu⟩)
    (cDu : PySem.W.codeIn K cdDu "_law_due" = true)
    (kDu : PySem.W.keepIn K (.ref fDu) = true)
    (aFa : PySem.W.nsIn K mainGlobals "_law_far_right" = some (some (.ref fFa)))
    (lFa : K.lookup fFa = some ⟨ocFa, odFa, .func (PySem.W.fnOf "_law_far_right" "_law_far_right" (defArgs s_far) (defBody s_far) (defScope s_far) .none kVFa dcFa pmFa anFa cdFa ctFa), slFa⟩)
    (cFa : PySem.W.codeIn K cdFa "_law_far_right" = true)
    (kFa : PySem.W.keepIn K (.ref fFa) = true)
    (aOd : PySem.W.nsIn K mainGlobals "_law_odd_right" = some (some (.ref fOd)))
    (lOd : K.lookup fOd = some ⟨ocOd, odOd, .func (PySem.W.fnOf "_law_odd_right" "_law_odd_right" (defArgs s_odd) (defBody s_odd) (defScope s_odd) .none kVOd dcOd pmOd anOd cdOd ctOd), slOd⟩)
    (cOd : PySem.W.codeIn K cdOd "_law_odd_right" = true)
    (kOd : PySem.W.keepIn K (.ref fOd) = true)
    (aTi : PySem.W.findIn K (.ref CT) "__init__" = some (some (.ref fTi)))
    (lTi : K.lookup fTi = some ⟨ocTi, odTi, .func (PySem.W.fnOf "__init__" "Table.__init__" (defArgs s_ti) (defBody s_ti) (defScope s_ti) .none kVTi dcTi pmTi anTi cdTi ctTi), slTi⟩)
    (cTi : PySem.W.codeIn K cdTi "Table.__init__" = true)
    (kTi : PySem.W.keepIn K (.ref fTi) = true)
    (aET : PySem.W.findIn K (.ref CT) "__eq__" = some (some (.ref fET)))
    (lET : K.lookup fET = some ⟨ocET, odET, .func (PySem.W.fnOf "__eq__" "Table.__eq__" (defArgs s_eqT) (defBody s_eqT) (defScope s_eqT) .none kVET dcET pmET anET cdET ctET), slET⟩)
    (cET : PySem.W.codeIn K cdET "Table.__eq__" = true)
    (kET : PySem.W.keepIn K (.ref fET) = true)
    (aWo : PySem.W.findIn K (.ref CT) "worth_of" = some (some (.ref fWo)))
    (lWo : K.lookup fWo = some ⟨ocWo, odWo, .func (PySem.W.fnOf "worth_of" "Table.worth_of" (defArgs s_wo) (defBody s_wo) (defScope s_wo) .none kVWo dcWo pmWo anWo cdWo ctWo), slWo⟩)
    (cWo : PySem.W.codeIn K cdWo "Table.worth_of" = true)
    (kWo : PySem.W.keepIn K (.ref fWo) = true)
    (aGi : PySem.W.findIn K (.ref CT) "__getitem__" = some (some (.ref fGi)))
    (lGi : K.lookup fGi = some ⟨ocGi, odGi, .func (PySem.W.fnOf "__getitem__" "Table.__getitem__" (defArgs s_gi) (defBody s_gi) (defScope s_gi) .none kVGi dcGi pmGi anGi cdGi ctGi), slGi⟩)
    (cGi : PySem.W.codeIn K cdGi "Table.__getitem__" = true)
    (kGi : PySem.W.keepIn K (.ref fGi) = true)
    (aFw : PySem.W.findIn K (.ref CT) "first_worths" = some (some (.ref fFw)))
    (lFw : K.lookup fFw = some ⟨ocFw, odFw, .func (PySem.W.fnOf "first_worths" "Table.first_worths" (defArgs s_fw) (defBody s_fw) (defScope s_fw) .none kVFw dcFw pmFw anFw cdFw ctFw), slFw⟩)
    (cFw : PySem.W.codeIn K cdFw "Table.first_worths" = true)
    (kFw : PySem.W.keepIn K (.ref fFw) = true)
    (aKi : PySem.W.findIn K (.ref CK) "__init__" = some (some (.ref fKi)))
    (lKi : K.lookup fKi = some ⟨ocKi, odKi, .func (PySem.W.fnOf "__init__" "Kept.__init__" (defArgs s_ki) (defBody s_ki) (defScope s_ki) .none kVKi dcKi pmKi anKi cdKi ctKi), slKi⟩)
    (cKi : PySem.W.codeIn K cdKi "Kept.__init__" = true)
    (kKi : PySem.W.keepIn K (.ref fKi) = true)
    (aKb : PySem.W.findIn K (.ref CK) "__bool__" = some (some (.ref fKb)))
    (lKb : K.lookup fKb = some ⟨ocKb, odKb, .func (PySem.W.fnOf "__bool__" "Kept.__bool__" (defArgs s_kb) (defBody s_kb) (defScope s_kb) .none kVKb dcKb pmKb anKb cdKb ctKb), slKb⟩)
    (cKb : PySem.W.codeIn K cdKb "Kept.__bool__" = true)
    (kKb : PySem.W.keepIn K (.ref fKb) = true)
    (aTu : PySem.W.findIn K (.ref CU) "__init__" = some (some (.ref fTu)))
    (lTu : K.lookup fTu = some ⟨ocTu, odTu, .func (PySem.W.fnOf "__init__" "Turned.__init__" (defArgs s_tu) (defBody s_tu) (defScope s_tu) .none kVTu dcTu pmTu anTu cdTu ctTu), slTu⟩)
    (cTu : PySem.W.codeIn K cdTu "Turned.__init__" = true)
    (kTu : PySem.W.keepIn K (.ref fTu) = true)
    (aTb : PySem.W.findIn K (.ref CU) "__bool__" = some (some (.ref fTb)))
    (lTb : K.lookup fTb = some ⟨ocTb, odTb, .func (PySem.W.fnOf "__bool__" "Turned.__bool__" (defArgs s_tb) (defBody s_tb) (defScope s_tb) .none kVTb dcTb pmTb anTb cdTb ctTb), slTb⟩)
    (cTb : PySem.W.codeIn K cdTb "Turned.__bool__" = true)
    (kTb : PySem.W.keepIn K (.ref fTb) = true)
    (aLr : PySem.W.findIn K (.ref CF) "left_from" = some (some (.ref fLr)))
    (lLr : K.lookup fLr = some ⟨ocLr, odLr, .func (PySem.W.fnOf "left_from" "Fixed.left_from" (defArgs s_lf) (defBody s_lf) (defScope s_lf) .none kVLr dcLr pmLr anLr cdLr ctLr), slLr⟩)
    (cLr : PySem.W.codeIn K cdLr "Fixed.left_from" = true)
    (kLr : PySem.W.keepIn K (.ref fLr) = true)
    (aLd : PySem.W.findIn K (.ref CD) "left_from" = some (some (.ref fLd)))
    (lLd : K.lookup fLd = some ⟨ocLd, odLd, .func (PySem.W.fnOf "left_from" "Down.left_from" (defArgs s_ld) (defBody s_ld) (defScope s_ld) .none kVLd dcLd pmLd anLd cdLd ctLd), slLd⟩)
    (cLd : PySem.W.codeIn K cdLd "Down.left_from" = true)
    (kLd : PySem.W.keepIn K (.ref fLd) = true)
    (iFET : PySem.W.isFn K (.ref fET) = true)
    (iFWo : PySem.W.isFn K (.ref fWo) = true)
    (iFGi : PySem.W.isFn K (.ref fGi) = true)
    (iFFw : PySem.W.isFn K (.ref fFw) = true)
    (iFKb : PySem.W.isFn K (.ref fKb) = true)
    (iFTb : PySem.W.isFn K (.ref fTb) = true)
    (iFLr : PySem.W.isFn K (.ref fLr) = true)
    (iFLd : PySem.W.isFn K (.ref fLd) = true)
    (neCT : PySem.W.findIn K (.ref CT) "__ne__" = some (some (.builtin "object.__ne__")))
    (gLcm : PySem.W.nsIn K mainGlobals "lcm" = some (some (.builtin "math.lcm")))
    (g_MOST : PySem.W.nsIn K mainGlobals "MOST" = some (some (.int 1000 tMO)))
    (g_MOST_WORTH : PySem.W.nsIn K mainGlobals "MOST_WORTH" = some (some (.int 400 tMW)))
    (g_BIGGEST : PySem.W.nsIn K mainGlobals "BIGGEST" = some (some (.int 1000000000000000000000000000000 tBG)))
    (pgCT : PySem.W.plainGet K CT Str.empty = true)
    (hdCT : PySem.W.hasDictIn K CT = true)
    (poCT : PySem.W.plainOver K CT = true)
    (saCT : PySem.W.findIn K (.ref CT) "__setattr__" = some (some (.builtin "object.__setattr__")))
    (nbeginCT : PySem.W.findIn K (.ref CT) "begin" = some none)
    (nperiodCT : PySem.W.findIn K (.ref CT) "period" = some none)
    (nnumbersCT : PySem.W.findIn K (.ref CT) "numbers" = some none)
    (haCT : PySem.W.findIn K (.ref CT) "__class__" = some (some (.builtin "object.__class__")))
    (hmCT : PySem.W.mroIn K CT (.type "object") = some true)
    (mkCT : PySem.W.makesIn K CT = true)
    (kpCT : PySem.W.keepIn K (.ref CT) = true)
    (iFTi : PySem.W.isFn K (.ref fTi) = true)
    (kt_CT_CT : PySem.W.kitOne K (.ref CT) (.ref CT) = some true)
    (pgCK : PySem.W.plainGet K CK Str.empty = true)
    (hdCK : PySem.W.hasDictIn K CK = true)
    (poCK : PySem.W.plainOver K CK = true)
    (saCK : PySem.W.findIn K (.ref CK) "__setattr__" = some (some (.builtin "object.__setattr__")))
    (nruleCK : PySem.W.findIn K (.ref CK) "rule" = some none)
    (nheapCK : PySem.W.findIn K (.ref CK) "heap" = some none)
    (nleftCK : PySem.W.findIn K (.ref CK) "left" = some none)
    (mkCK : PySem.W.makesIn K CK = true)
    (kpCK : PySem.W.keepIn K (.ref CK) = true)
    (iFKi : PySem.W.isFn K (.ref fKi) = true)
    (pgCU : PySem.W.plainGet K CU Str.empty = true)
    (hdCU : PySem.W.hasDictIn K CU = true)
    (poCU : PySem.W.plainOver K CU = true)
    (saCU : PySem.W.findIn K (.ref CU) "__setattr__" = some (some (.builtin "object.__setattr__")))
    (nruleCU : PySem.W.findIn K (.ref CU) "rule" = some none)
    (nheapCU : PySem.W.findIn K (.ref CU) "heap" = some none)
    (nleftCU : PySem.W.findIn K (.ref CU) "left" = some none)
    (mkCU : PySem.W.makesIn K CU = true)
    (kpCU : PySem.W.keepIn K (.ref CU) = true)
    (iFTu : PySem.W.isFn K (.ref fTu) = true)
    (nifi : PySem.W.kitOne K (.ref CF) (.type "int") = some false)
    (nifb : PySem.W.kitOne K (.ref CF) (.type "bool") = some false)
    (nidi : PySem.W.kitOne K (.ref CD) (.type "int") = some false)
    (nidb : PySem.W.kitOne K (.ref CD) (.type "bool") = some false)
    (aL : PySem.W.nsIn K mainGlobals "law" = some (some (.ref fL)))
    (lL : K.lookup fL = some ⟨ocL, odL, .func (PySem.W.fnOf "law" "law" (defArgs s_law) (defBody s_law) (defScope s_law) .none kVL dcL pmL anL cdL ctL), slL⟩)
    (cL : PySem.W.codeIn K cdL "law" = true)
    (kL : PySem.W.keepIn K (.ref fL) = true) : LawEnd l w K 12 63 "_law_script" mg fa h := by
  have G := Tp.g
  have e := hfa.symm.trans (PySem.W.mg_of X G aL)
  cases e
  have FN := fun_mk (st := s_is_number) lN cN kN
  have bN := FN.binds (ps := ["value", "least", "most"]) fun _ _ _ _ _ _ us hl => len3 (P := fun us => bindArgs _ ⟨us, []⟩ = pure (List.zip _ us)) (fun _ _ _ => rfl) us hl
  have FRK := fun_mk (st := s_rank_of) lRK cRK kRK
  have bRK := FRK.binds (ps := ["kind", "number", "modulus", "rest", "leave"]) fun _ _ _ _ _ _ us hl => len5 (P := fun us => bindArgs _ ⟨us, []⟩ = pure (List.zip _ us)) (fun _ _ _ _ _ => rfl) us hl
  have FRs := fun_mk (st := s_rested) lRs cRs kRs
  have bRs := FRs.binds (ps := ["self", "rest", "modulus"]) fun _ _ _ _ _ _ us hl => len3 (P := fun us => bindArgs _ ⟨us, []⟩ = pure (List.zip _ us)) (fun _ _ _ => rfl) us hl
  have FSz := fun_mk (st := s_sized) lSz cSz kSz
  have bSz := FSz.binds (ps := ["self", "size", "leave"]) fun _ _ _ _ _ _ us hl => len3 (P := fun us => bindArgs _ ⟨us, []⟩ = pure (List.zip _ us)) (fun _ _ _ => rfl) us hl
  have FEF := fun_mk (st := s_eqF) lEF cEF kEF
  have bEF := FEF.binds (ps := ["self", "other"]) fun _ _ _ _ _ _ us hl => len2 (P := fun us => bindArgs _ ⟨us, []⟩ = pure (List.zip _ us)) (fun _ _ => rfl) us hl
  have FED := fun_mk (st := s_eqD) lED cED kED
  have bED := FED.binds (ps := ["self", "other"]) fun _ _ _ _ _ _ us hl => len2 (P := fun us => bindArgs _ ⟨us, []⟩ = pure (List.zip _ us)) (fun _ _ => rfl) us hl
  have FPn := fun_mk (st := s_pen) lPn cPn kPn
  have bPn := FPn.binds (ps := ["_law_script"]) fun _ _ _ _ _ _ us hl => len1 (P := fun us => bindArgs _ ⟨us, []⟩ = pure (List.zip _ us)) (fun _ => rfl) us hl
  have FD := fun_mk (st := s_draw) lD cD kD
  have bD := FD.binds (ps := ["_law_pen_here", "_law_many"]) fun _ _ _ _ _ _ us hl => len2 (P := fun us => bindArgs _ ⟨us, []⟩ = pure (List.zip _ us)) (fun _ _ => rfl) us hl
  have FPk := fun_mk (st := s_pick) lPk cPk kPk
  have bPk := FPk.binds (ps := ["_law_pen_here", "_law_some"]) fun _ _ _ _ _ _ us hl => len2 (P := fun us => bindArgs _ ⟨us, []⟩ = pure (List.zip _ us)) (fun _ _ => rfl) us hl
  have FCr := fun_mk (st := s_cr) lCr cCr kCr
  have bCr := FCr.binds (ps := ["begin", "period", "told", "part"]) fun _ _ _ _ _ _ us hl => len4 (P := fun us => bindArgs _ ⟨us, []⟩ = pure (List.zip _ us)) (fun _ _ _ _ => rfl) us hl
  have FLp := fun_mk (st := s_lp) lLp cLp kLp
  have bLp := FLp.binds (ps := ["again"]) fun _ _ _ _ _ _ us hl => len1 (P := fun us => bindArgs _ ⟨us, []⟩ = pure (List.zip _ us)) (fun _ => rfl) us hl
  have FTf := fun_mk (st := s_tf) lTf cTf kTf
  have bTf := FTf.binds (ps := ["told", "begin"]) fun _ _ _ _ _ _ us hl => len2 (P := fun us => bindArgs _ ⟨us, []⟩ = pure (List.zip _ us)) (fun _ _ => rfl) us hl
  have FCs := fun_mk (st := s_cs) lCs cCs kCs
  have bCs := FCs.binds (ps := ["value"]) fun _ _ _ _ _ _ us hl => len1 (P := fun us => bindArgs _ ⟨us, []⟩ = pure (List.zip _ us)) (fun _ => rfl) us hl
  have FPo := fun_mk (st := s_po) lPo cPo kPo
  have bPo := FPo.binds (ps := ["at", "begin", "period"]) fun _ _ _ _ _ _ us hl => len3 (P := fun us => bindArgs _ ⟨us, []⟩ = pure (List.zip _ us)) (fun _ _ _ => rfl) us hl
  have FFt := fun_mk (st := s_ft) lFt cFt kFt
  have bFt := FFt.binds (ps := ["told", "begin", "count"]) fun _ _ _ _ _ _ us hl => len3 (P := fun us => bindArgs _ ⟨us, []⟩ = pure (List.zip _ us)) (fun _ _ _ => rfl) us hl
  have FBm := fun_mk (st := s_bm) lBm cBm kBm
  have bBm := FBm.binds (ps := ["table", "rule"]) fun _ _ _ _ _ _ us hl => len2 (P := fun us => bindArgs _ ⟨us, []⟩ = pure (List.zip _ us)) (fun _ _ => rfl) us hl
  have FKw := fun_mk (st := s_kw) lKw cKw kKw
  have bKw := FKw.binds (ps := ["table", "rule"]) fun _ _ _ _ _ _ us hl => len2 (P := fun us => bindArgs _ ⟨us, []⟩ = pure (List.zip _ us)) (fun _ _ => rfl) us hl
  have FSh := fun_mk (st := s_sh) lSh cSh kSh
  have bSh := FSh.binds (ps := ["table", "rule", "heap", "left"]) fun _ _ _ _ _ _ us hl => len4 (P := fun us => bindArgs _ ⟨us, []⟩ = pure (List.zip _ us)) (fun _ _ _ _ => rfl) us hl
  have FSt := fun_mk (st := s_st) lSt cSt kSt
  have bSt := FSt.binds (ps := ["rule", "heap"]) fun _ _ _ _ _ _ us hl => len2 (P := fun us => bindArgs _ ⟨us, []⟩ = pure (List.zip _ us)) (fun _ _ => rfl) us hl
  have FPa := fun_mk (st := s_parts) lPa cPa kPa
  have bPa := FPa.binds (ps := ["_law_pen_here", "_law_most"]) fun _ _ _ _ _ _ us hl => len2 (P := fun us => bindArgs _ ⟨us, []⟩ = pure (List.zip _ us)) (fun _ _ => rfl) us hl
  have FRu := fun_mk (st := s_rule) lRu cRu kRu
  have bRu := FRu.binds (ps := ["_law_parts_here"]) fun _ _ _ _ _ _ us hl => len1 (P := fun us => bindArgs _ ⟨us, []⟩ = pure (List.zip _ us)) (fun _ => rfl) us hl
  have FLe := fun_mk (st := s_left) lLe cLe kLe
  have bLe := FLe.binds (ps := ["_law_parts_here", "_law_spot"]) fun _ _ _ _ _ _ us hl => len2 (P := fun us => bindArgs _ ⟨us, []⟩ = pure (List.zip _ us)) (fun _ _ => rfl) us hl
  have FTa := fun_mk (st := s_tab) lTa cTa kTa
  have bTa := FTa.binds (ps := ["_law_pen_here"]) fun _ _ _ _ _ _ us hl => len1 (P := fun us => bindArgs _ ⟨us, []⟩ = pure (List.zip _ us)) (fun _ => rfl) us hl
  have FWr := fun_mk (st := s_wor) lWr cWr kWr
  have bWr := FWr.binds (ps := ["_law_begin_so", "_law_numbers_so", "_law_spot"]) fun _ _ _ _ _ _ us hl => len3 (P := fun us => bindArgs _ ⟨us, []⟩ = pure (List.zip _ us)) (fun _ _ _ => rfl) us hl
  have FDu := fun_mk (st := s_due) lDu cDu kDu
  have bDu := FDu.binds (ps := ["_law_case", "_law_parts_here", "_law_spot", "_law_low"]) fun _ _ _ _ _ _ us hl => len4 (P := fun us => bindArgs _ ⟨us, []⟩ = pure (List.zip _ us)) (fun _ _ _ _ => rfl) us hl
  have FFa := fun_mk (st := s_far) lFa cFa kFa
  have bFa := FFa.binds (ps := ["_law_pen_here", "_law_case", "_law_parts_here", "_law_rule_so"]) fun _ _ _ _ _ _ us hl => len4 (P := fun us => bindArgs _ ⟨us, []⟩ = pure (List.zip _ us)) (fun _ _ _ _ => rfl) us hl
  have FOd := fun_mk (st := s_odd) lOd cOd kOd
  have bOd := FOd.binds (ps := ["_law_pen_here", "_law_case", "_law_rule_so", "_law_spot", "_law_low"]) fun _ _ _ _ _ _ us hl => len5 (P := fun us => bindArgs _ ⟨us, []⟩ = pure (List.zip _ us)) (fun _ _ _ _ _ => rfl) us hl
  have FTi := fun_mk (st := s_ti) lTi cTi kTi
  have bTi := FTi.binds (ps := ["self", "begin", "period", "numbers"]) fun _ _ _ _ _ _ us hl => len4 (P := fun us => bindArgs _ ⟨us, []⟩ = pure (List.zip _ us)) (fun _ _ _ _ => rfl) us hl
  have FET := fun_mk (st := s_eqT) lET cET kET
  have bET := FET.binds (ps := ["self", "other"]) fun _ _ _ _ _ _ us hl => len2 (P := fun us => bindArgs _ ⟨us, []⟩ = pure (List.zip _ us)) (fun _ _ => rfl) us hl
  have FWo := fun_mk (st := s_wo) lWo cWo kWo
  have bWo := FWo.binds (ps := ["self", "n"]) fun _ _ _ _ _ _ us hl => len2 (P := fun us => bindArgs _ ⟨us, []⟩ = pure (List.zip _ us)) (fun _ _ => rfl) us hl
  have FGi := fun_mk (st := s_gi) lGi cGi kGi
  have bGi := FGi.binds (ps := ["self", "at"]) fun _ _ _ _ _ _ us hl => len2 (P := fun us => bindArgs _ ⟨us, []⟩ = pure (List.zip _ us)) (fun _ _ => rfl) us hl
  have FFw := fun_mk (st := s_fw) lFw cFw kFw
  have bFw := FFw.binds (ps := ["self", "count"]) fun _ _ _ _ _ _ us hl => len2 (P := fun us => bindArgs _ ⟨us, []⟩ = pure (List.zip _ us)) (fun _ _ => rfl) us hl
  have FKi := fun_mk (st := s_ki) lKi cKi kKi
  have bKi := FKi.binds (ps := ["self", "rule"]) fun _ _ _ _ _ _ us hl => len2 (P := fun us => bindArgs _ ⟨us, []⟩ = pure (List.zip _ us)) (fun _ _ => rfl) us hl
  have FKb := fun_mk (st := s_kb) lKb cKb kKb
  have bKb := FKb.binds (ps := ["self"]) fun _ _ _ _ _ _ us hl => len1 (P := fun us => bindArgs _ ⟨us, []⟩ = pure (List.zip _ us)) (fun _ => rfl) us hl
  have FTu := fun_mk (st := s_tu) lTu cTu kTu
  have bTu := FTu.binds (ps := ["self", "rule", "heap", "left"]) fun _ _ _ _ _ _ us hl => len4 (P := fun us => bindArgs _ ⟨us, []⟩ = pure (List.zip _ us)) (fun _ _ _ _ => rfl) us hl
  have FTb := fun_mk (st := s_tb) lTb cTb kTb
  have bTb := FTb.binds (ps := ["self"]) fun _ _ _ _ _ _ us hl => len1 (P := fun us => bindArgs _ ⟨us, []⟩ = pure (List.zip _ us)) (fun _ => rfl) us hl
  have FLr := fun_mk (st := s_lf) lLr cLr kLr
  have bLr := FLr.binds (ps := ["self", "heap"]) fun _ _ _ _ _ _ us hl => len2 (P := fun us => bindArgs _ ⟨us, []⟩ = pure (List.zip _ us)) (fun _ _ => rfl) us hl
  have FLd := fun_mk (st := s_ld) lLd cLd kLd
  have bLd := FLd.binds (ps := ["self", "heap"]) fun _ _ _ _ _ _ us hl => len2 (P := fun us => bindArgs _ ⟨us, []⟩ = pure (List.zip _ us)) (fun _ _ => rfl) us hl
  have FL := fun_mk (st := s_law) lL cL kL
  have Fx : FunFixed K fFx _ := ⟨⟨_, _, _, _, _, _, _, _, _, _, rfl, lFx, cFx, .inr ⟨by simp, TdFx, _, [.int 0 tdFx0, .int 1 tdFx1, .int 0 tdFx2], ndFx, rfl, ldFx, rfl, (.cons ⟨tdFx0, rfl⟩ (.cons ⟨tdFx1, rfl⟩ (.cons ⟨tdFx2, rfl⟩ .nil)))⟩, .inl rfl⟩, kFx⟩
  have Dn : FunDown K fDn _ := ⟨⟨_, _, _, _, _, _, _, _, _, _, rfl, lDn, cDn, .inr ⟨by simp, TdDn, _, [.int 0 tdDn0, .int 1 tdDn1], ndDn, rfl, ldDn, rfl, (.cons ⟨tdDn0, rfl⟩ (.cons ⟨tdDn1, rfl⟩ .nil))⟩, .inl rfl⟩, kDn⟩
  have U : Blt mg := ⟨PySem.W.mg_none_of X G z_int, PySem.W.mg_none_of X G z_len, PySem.W.mg_none_of X G z_abs, PySem.W.mg_none_of X G z_list, PySem.W.mg_none_of X G z_range, PySem.W.mg_none_of X G z_isinstance, PySem.W.mg_none_of X G z_repr, PySem.W.mg_none_of X G z_bool, PySem.W.mg_none_of X G z_tuple, PySem.W.mg_none_of X G z_str, PySem.W.mg_none_of X G z_max, PySem.W.mg_none_of X G z_min, PySem.W.mg_none_of X G z_dict, PySem.W.mg_none_of X G z_set, PySem.W.mg_none_of X G z_sorted, PySem.W.mg_none_of X G z_sum, PySem.W.mg_none_of X G z_all, PySem.W.mg_none_of X G z_any, PySem.W.mg_none_of X G z_zip, PySem.W.mg_none_of X G z_enumerate, PySem.W.mg_none_of X G z_reversed⟩
  have T : PrgR K mg CRl := { g_Rule := (PySem.W.mg_of X G gRl), rdRl := ⟨rdCRl, gaCRl⟩, most := ⟨_, m_CRl_MOST, ⟨t_CRl_MOST, rfl⟩⟩, mostM := ⟨_, m_CRl_MOST_MODULUS, ⟨t_CRl_MOST_MODULUS, rfl⟩⟩ }
  have IF : InsC K CF := ⟨⟨pgCF, hdCF, poCF, saCF⟩, ntoCF, nsizeCF, nleaveCF, nrestCF, nmodulusCF, nstartCF, nrankCF⟩
  have ID : InsC K CD := ⟨⟨pgCD, hdCD, poCD, saCD⟩, ntoCD, nsizeCD, nleaveCD, nrestCD, nmodulusCD, nstartCD, nrankCD⟩
  have MkF : Mk K CF fFx := ⟨mkCF, aFx, iFFx, kpCF⟩
  have MkD : Mk K CD fDn := ⟨mkCD, aDn, iFDn, kpCD⟩
  have BRs : BaseC K CRs fRs := ⟨⟨rdCRs, gaCRs⟩, aRs⟩
  have BSz : BaseC K CSz fSz := ⟨⟨rdCSz, gaCSz⟩, aSz⟩
  have PQ : PrgQ K CF CD := { icF := IF, icD := ID, tyF := ⟨haCF, hn, htk, hmCF⟩, tyD := ⟨haCD, hn, htk, hmCD⟩, nFD := nFD, nDF := nDF, kFF := kt_CF_CF, kFD := kt_CF_CD, kDF := kt_CD_CF, kDD := kt_CD_CD, tF := tyCF, tD := tyCD }
  have TC : TabC K CT := ⟨⟨pgCT, hdCT, poCT, saCT⟩, nbeginCT, nperiodCT, nnumbersCT⟩
  have tyT : TyC K CT := ⟨haCT, hn, htk, hmCT⟩
  have MkT : Mk K CT fTi := ⟨mkCT, aTi, iFTi, kpCT⟩
  have KC : TurC K CK := ⟨⟨pgCK, hdCK, poCK, saCK⟩, nruleCK, nheapCK, nleftCK⟩
  have KU : TurC K CU := ⟨⟨pgCU, hdCU, poCU, saCU⟩, nruleCU, nheapCU, nleftCU⟩
  have MkK : Mk K CK fKi := ⟨mkCK, aKi, iFKi, kpCK⟩
  have MkU : Mk K CU fTu := ⟨mkCU, aTu, iFTu, kpCU⟩
  have NI : NoInt K CF CD := ⟨nifi, nifb, nidi, nidb⟩
  have bk_sh : KBn K _ ["table", "rule", "heap", "left"] 0 ["left", "heap", "rule", "table"] (fun us ws => us ++ ws.reverse) (fun vs zs => vs ++ zs.reverse) := kbSh FSh

  refine ⟨PySem.W.fnOf "law" "law" (defArgs s_law) (defBody s_law) (defScope s_law) .none kVL dcL pmL anL cdL ctL, [], spLaw K, fun q hq => ?_, fun s u => .of_eq rfl, fun H a ns few _ tabs sq => ⟨a, ns, rfl, sq, few, fun _ => rfl⟩, fun base KX _ tb => ?_⟩
  · cases hq
  · skip

    have G_fixed : FnOk l.prog w K mg base CX0 5 fFx _ pFx (spFixedV CF) := ok_fixed Fx U T IF FN (PySem.W.mg_of X G aN) bN FRs bRs (PySem.W.mg_of X G gRs) BRs FRK (PySem.W.mg_of X G aRK) bRK FSz bSz (PySem.W.mg_of X G gSz) BSz
    have G_down : FnOk l.prog w K mg base CX0 5 fDn _ ["self", "to", "rest", "modulus"] (spDownV CD) := ok_down Dn U T ID FN (PySem.W.mg_of X G aN) bN FRs bRs (PySem.W.mg_of X G gRs) BRs FRK (PySem.W.mg_of X G aRK) bRK
    have G_eqF : FnOk l.prog w K mg base CX0 1 fEF _ ["self", "other"] (spEqR K CF) := ok_eqF FEF U (PySem.W.mg_of X G gF) IF PQ.tyF PQ.kFF
    have G_eqD : FnOk l.prog w K mg base CX0 1 fED _ ["self", "other"] (spEqR K CD) := ok_eqD FED U (PySem.W.mg_of X G gDn) ID PQ.tyD PQ.kDD
    have G_rule : FnOk l.prog w K mg base CX0 7 fRu _ ["_law_parts_here"] (spRule CF CD) := ok_rule FRu Dn G_down MkD (PySem.W.mg_of X G gDn) Fx G_fixed MkF (PySem.W.mg_of X G gF)
    have G_ti : FnOk l.prog w K mg base CX0 5 fTi _ ["self", "begin", "period", "numbers"] (spTableV CT) := ok_ti FTi U TC FN (PySem.W.mg_of X G aN) bN (PySem.W.mg_of X G g_MOST) (PySem.W.mg_of X G g_MOST_WORTH) FCr (PySem.W.mg_of X G aCr) bCr FLp (PySem.W.mg_of X G aLp) bLp FTf (PySem.W.mg_of X G aTf) bTf
    have G_eqT : FnOk l.prog w K mg base CX0 1 fET _ ["self", "other"] (spEqT K CT) := ok_eqT FET U (PySem.W.mg_of X G gT) TC tyT kt_CT_CT
    have G_lf : FnOk l.prog w K mg base CX0 1 fLr _ ["self", "heap"] (spLeftFrom CF CD) := ok_lf FLr PQ
    have G_ld : FnOk l.prog w K mg base CX0 1 fLd _ ["self", "heap"] (spLeftD CF CD) := ok_ld FLd PQ
    have G_cs : FnOk l.prog w K mg base CX0 2 fCs _ ["value"] spCsOk := ok_cs FCs U FN (PySem.W.mg_of X G aN) bN (PySem.W.mg_of X G g_BIGGEST)
    have G_wo : FnOk l.prog w K mg base CX0 2 fWo _ ["self", "n"] (spWo CT) := ok_wo FWo TC FPo (PySem.W.mg_of X G aPo) bPo
    have G_gi : FnOk l.prog w K mg base CX0 3 fGi _ ["self", "at"] (spGi CT) := ok_gi FGi TC FCs (PySem.W.mg_of X G aCs) bCs G_cs ⟨aWo, iFWo, kWo⟩ G_wo bWo
    have G_fw : FnOk l.prog w K mg base CX0 2 fFw _ ["self", "count"] (spFw CT) := ok_fw FFw U TC FFt (PySem.W.mg_of X G aFt) bFt
    have G_bm : FnOk l.prog w K mg base CX0 4 fBm _ ["table", "rule"] (spBm CT CF CD) := ok_bm FBm U TC PQ (PySem.W.mg_of X G gLcm) ⟨aFw, iFFw, kFw⟩ G_fw bFw ⟨aLr, iFLr, kLr⟩ G_lf bLr ⟨aLd, iFLd, kLd⟩ G_ld bLd
    have G_kw : FnOk l.prog w K mg base CX0 5 fKw _ ["table", "rule"] (spKw CT CF CD CK CU) := ok_kw FKw U TC PQ FBm (PySem.W.mg_of X G aBm) bBm G_bm KC KU MkK (PySem.W.mg_of X G gKe) FKi bKi MkU (PySem.W.mg_of X G gTu) FTu bTu ⟨aFw, iFFw, kFw⟩ G_fw bFw ⟨aLr, iFLr, kLr⟩ G_lf bLr ⟨aLd, iFLd, kLd⟩ G_ld bLd
    have G_sh : FnOk l.prog w K mg base CX0 5 fSh _ ["table", "rule", "heap", "left"] (spSh K CT CF CD) := ok_sh FSh U PQ FN (PySem.W.mg_of X G aN) bN (PySem.W.mg_of X G g_BIGGEST) FSt (PySem.W.mg_of X G aSt) bSt FGi aGi iFGi G_gi bGi ⟨aLr, iFLr, kLr⟩ G_lf bLr ⟨aLd, iFLd, kLd⟩ G_ld bLd
    have G_table : FnOk l.prog w K mg base CX0 7 fTa _ ["_law_pen_here"] (spTab CT) := ok_tab FTa U FD (PySem.W.mg_of X G aD) bD FPk (PySem.W.mg_of X G aPk) bPk G_ti MkT (PySem.W.mg_of X G gT) bTi
    have G_far : FnOk l.prog w K mg base CX0 6 fFa _ ["_law_pen_here", "_law_case", "_law_parts_here", "_law_rule_so"] (spFar CT CF CD) := ok_far FFa U FD (PySem.W.mg_of X G aD) bD FPk (PySem.W.mg_of X G aPk) bPk FLe (PySem.W.mg_of X G aLe) bLe FWr (PySem.W.mg_of X G aWr) bWr FDu (PySem.W.mg_of X G aDu) bDu FSh (PySem.W.mg_of X G aSh) bSh G_sh
    have G_odd : FnOk l.prog w K mg base CX0 6 fOd _ ["_law_pen_here", "_law_case", "_law_rule_so", "_law_spot", "_law_low"] (spOdd CT CF CD) := ok_odd FOd U PQ NI FD (PySem.W.mg_of X G aD) bD FPk (PySem.W.mg_of X G aPk) bPk FSh (PySem.W.mg_of X G aSh) bSh G_sh
    exact ok_law FL U TC PQ FPn (PySem.W.mg_of X G aPn) bPn FD (PySem.W.mg_of X G aD) bD FPk (PySem.W.mg_of X G aPk) bPk FPa (PySem.W.mg_of X G aPa) bPa FTa (PySem.W.mg_of X G aTa) bTa G_table G_ti MkT (PySem.W.mg_of X G gT) bTi FRu (PySem.W.mg_of X G aRu) bRu G_rule FSh (PySem.W.mg_of X G aSh) bSh G_sh bk_sh FLe (PySem.W.mg_of X G aLe) bLe FWr (PySem.W.mg_of X G aWr) bWr FDu (PySem.W.mg_of X G aDu) bDu FKw (PySem.W.mg_of X G aKw) bKw G_kw aKb iFKb FKb bKb aTb iFTb FTb bTb KU FFa (PySem.W.mg_of X G aFa) bFa G_far FOd (PySem.W.mg_of X G aOd) bOd G_odd aEF iFEF neCF G_eqF bEF aED iFED neCD G_eqD bED aET iFET neCT tyT G_eqT bET
end Fz
open PySem PySem.W PyProof.Rows in
set_option maxRecDepth 100000 in
set_option maxHeartbeats 0 in
theorem PySem.Challenge.cw_freetakes_k68_turned_heaps_looked_at_holds : PySem.Challenge.rw_freetakes_k68_turned_heaps_looked_at.Holds := by
  w_on; o_law; k_head; (case hw => w_witness2)
  k_fill
  refine Fz.walk_fz (l := PySem.Challenge.rw_freetakes_k68_turned_heaps_looked_at) (n := 63) (k := 12) (x := "_law_script") rfl (by decide) rfl ⟨rfl, by decide, by decide⟩ (fun w h Y => PySem.W.kIn_of Y) ?F
  case F =>
    intro w mg mb fa h lo mean KX Tp hmg
    refine' Fz.all_mk KX Tp hmg  ?gRl ?gRs ?gF ?gDn ?gSz ?aN ?lN ?cN ?kN ?aRK ?lRK ?cRK ?kRK ?aRs ?lRs ?cRs ?kRs ?aSz ?lSz ?cSz ?kSz ?aFx ?lFx ?cFx ?kFx ?aDn ?lDn ?cDn ?kDn ?ldFx ?ldDn ?rdCRl ?gaCRl ?rdCRs ?gaCRs ?rdCSz ?gaCSz ?pgCF ?hdCF ?poCF ?saCF ?ntoCF ?nsizeCF ?nleaveCF ?nrestCF ?nmodulusCF ?nstartCF ?nrankCF ?pgCD ?hdCD ?poCD ?saCD ?ntoCD ?nsizeCD ?nleaveCD ?nrestCD ?nmodulusCD ?nstartCD ?nrankCD ?haCF ?hn ?htk ?hmCF ?haCD ?hmCD ?mkCF ?kpCF ?iFFx ?mkCD ?kpCD ?iFDn ?m_CRl_MOST ?m_CRl_MOST_MODULUS ?z_int ?z_len ?z_abs ?z_list ?z_range ?z_isinstance ?z_repr ?z_bool ?z_tuple ?z_str ?z_max ?z_min ?z_dict ?z_set ?z_sorted ?z_sum ?z_all ?z_any ?z_zip ?z_enumerate ?z_reversed ?aEF ?lEF ?cEF ?kEF ?aED ?lED ?cED ?kED ?iFEF ?neCF ?tyCF ?iFED ?neCD ?tyCD ?nFD ?nDF ?kt_CF_CF ?kt_CF_CD ?kt_CD_CF ?kt_CD_CD ?aPn ?lPn ?cPn ?kPn ?aD ?lD ?cD ?kD ?aPk ?lPk ?cPk ?kPk ?gT ?gKe ?gTu ?aCr ?lCr ?cCr ?kCr ?aLp ?lLp ?cLp ?kLp ?aTf ?lTf ?cTf ?kTf ?aCs ?lCs ?cCs ?kCs ?aPo ?lPo ?cPo ?kPo ?aFt ?lFt ?cFt ?kFt ?aBm ?lBm ?cBm ?kBm ?aKw ?lKw ?cKw ?kKw ?aSh ?lSh ?cSh ?kSh ?aSt ?lSt ?cSt ?kSt ?aPa ?lPa ?cPa ?kPa ?aRu ?lRu ?cRu ?kRu ?aLe ?lLe ?cLe ?kLe ?aTa ?lTa ?cTa ?kTa ?aWr ?lWr ?cWr ?kWr ?aDu ?lDu ?cDu ?kDu ?aFa ?lFa ?cFa ?kFa ?aOd ?lOd ?cOd ?kOd ?aTi ?lTi ?cTi ?kTi ?aET ?lET ?cET ?kET ?aWo ?lWo ?cWo ?kWo ?aGi ?lGi ?cGi ?kGi ?aFw ?lFw ?cFw ?kFw ?aKi ?lKi ?cKi ?kKi ?aKb ?lKb ?cKb ?kKb ?aTu ?lTu ?cTu ?kTu ?aTb ?lTb ?cTb ?kTb ?aLr ?lLr ?cLr ?kLr ?aLd ?lLd ?cLd ?kLd ?iFET ?iFWo ?iFGi ?iFFw ?iFKb ?iFTb ?iFLr ?iFLd ?neCT ?gLcm ?g_MOST ?g_MOST_WORTH ?g_BIGGEST ?pgCT ?hdCT ?poCT ?saCT ?nbeginCT ?nperiodCT ?nnumbersCT ?haCT ?hmCT ?mkCT ?kpCT ?iFTi ?kt_CT_CT ?pgCK ?hdCK ?poCK ?saCK ?nruleCK ?nheapCK ?nleftCK ?mkCK ?kpCK ?iFKi ?pgCU ?hdCU ?poCU ?saCU ?nruleCU ?nheapCU ?nleftCU ?mkCU ?kpCU ?iFTu ?nifi ?nifb ?nidi ?nidb ?aL ?lL ?cL ?kL

    (case gRl => k_is)
    (case gRs => k_is)
    (case gF => k_is)
    (case gDn => k_is)
    (case gSz => k_is)
    (case aN => k_is)
    (case lN => k_is)
    (case cN => k_is)
    (case kN => k_is)
    (case aRK => k_is)
    (case lRK => k_is)
    (case cRK => k_is)
    (case kRK => k_is)
    (case aRs => k_is)
    (case lRs => k_is)
    (case cRs => k_is)
    (case kRs => k_is)
    (case aSz => k_is)
    (case lSz => k_is)
    (case cSz => k_is)
    (case kSz => k_is)
    (case aFx => k_is)
    (case lFx => k_is)
    (case cFx => k_is)
    (case kFx => k_is)
    (case aDn => k_is)
    (case lDn => k_is)
    (case cDn => k_is)
    (case kDn => k_is)
    (case ldFx => k_is)
    (case ldDn => k_is)
    (case rdCRl => k_is)
    (case gaCRl => k_is)
    (case rdCRs => k_is)
    (case gaCRs => k_is)
    (case rdCSz => k_is)
    (case gaCSz => k_is)
    (case pgCF => k_is)
    (case hdCF => k_is)
    (case poCF => k_is)
    (case saCF => k_is)
    (case ntoCF => k_is)
    (case nsizeCF => k_is)
    (case nleaveCF => k_is)
    (case nrestCF => k_is)
    (case nmodulusCF => k_is)
    (case nstartCF => k_is)
    (case nrankCF => k_is)
    (case pgCD => k_is)
    (case hdCD => k_is)
    (case poCD => k_is)
    (case saCD => k_is)
    (case ntoCD => k_is)
    (case nsizeCD => k_is)
    (case nleaveCD => k_is)
    (case nrestCD => k_is)
    (case nmodulusCD => k_is)
    (case nstartCD => k_is)
    (case nrankCD => k_is)
    (case haCF => k_is)
    (case hn => k_is)
    (case htk => k_is)
    (case hmCF => k_is)
    (case haCD => k_is)
    (case hmCD => k_is)
    (case mkCF => k_is)
    (case kpCF => k_is)
    (case iFFx => k_is)
    (case mkCD => k_is)
    (case kpCD => k_is)
    (case iFDn => k_is)
    (case m_CRl_MOST => k_is)
    (case m_CRl_MOST_MODULUS => k_is)
    (case z_int => k_is)
    (case z_len => k_is)
    (case z_abs => k_is)
    (case z_list => k_is)
    (case z_range => k_is)
    (case z_isinstance => k_is)
    (case z_repr => k_is)
    (case z_bool => k_is)
    (case z_tuple => k_is)
    (case z_str => k_is)
    (case z_max => k_is)
    (case z_min => k_is)
    (case z_dict => k_is)
    (case z_set => k_is)
    (case z_sorted => k_is)
    (case z_sum => k_is)
    (case z_all => k_is)
    (case z_any => k_is)
    (case z_zip => k_is)
    (case z_enumerate => k_is)
    (case z_reversed => k_is)
    (case aEF => k_is)
    (case lEF => k_is)
    (case cEF => k_is)
    (case kEF => k_is)
    (case aED => k_is)
    (case lED => k_is)
    (case cED => k_is)
    (case kED => k_is)
    (case iFEF => k_is)
    (case neCF => k_is)
    (case tyCF => k_is)
    (case iFED => k_is)
    (case neCD => k_is)
    (case tyCD => k_is)
    (case nFD => k_is)
    (case nDF => k_is)
    (case kt_CF_CF => kit_is)
    (case kt_CF_CD => kit_is)
    (case kt_CD_CF => kit_is)
    (case kt_CD_CD => kit_is)
    (case aPn => k_is)
    (case lPn => k_is)
    (case cPn => k_is)
    (case kPn => k_is)
    (case aD => k_is)
    (case lD => k_is)
    (case cD => k_is)
    (case kD => k_is)
    (case aPk => k_is)
    (case lPk => k_is)
    (case cPk => k_is)
    (case kPk => k_is)
    (case gT => k_is)
    (case gKe => k_is)
    (case gTu => k_is)
    (case aCr => k_is)
    (case lCr => k_is)
    (case cCr => k_is)
    (case kCr => k_is)
    (case aLp => k_is)
    (case lLp => k_is)
    (case cLp => k_is)
    (case kLp => k_is)
    (case aTf => k_is)
    (case lTf => k_is)
    (case cTf => k_is)
    (case kTf => k_is)
    (case aCs => k_is)
    (case lCs => k_is)
    (case cCs => k_is)
    (case kCs => k_is)
    (case aPo => k_is)
    (case lPo => k_is)
    (case cPo => k_is)
    (case kPo => k_is)
    (case aFt => k_is)
    (case lFt => k_is)
    (case cFt => k_is)
    (case kFt => k_is)
    (case aBm => k_is)
    (case lBm => k_is)
    (case cBm => k_is)
    (case kBm => k_is)
    (case aKw => k_is)
    (case lKw => k_is)
    (case cKw => k_is)
    (case kKw => k_is)
    (case aSh => k_is)
    (case lSh => k_is)
    (case cSh => k_is)
    (case kSh => k_is)
    (case aSt => k_is)
    (case lSt => k_is)
    (case cSt => k_is)
    (case kSt => k_is)
    (case aPa => k_is)
    (case lPa => k_is)
    (case cPa => k_is)
    (case kPa => k_is)
    (case aRu => k_is)
    (case lRu => k_is)
    (case cRu => k_is)
    (case kRu => k_is)
    (case aLe => k_is)
    (case lLe => k_is)
    (case cLe => k_is)
    (case kLe => k_is)
    (case aTa => k_is)
    (case lTa => k_is)
    (case cTa => k_is)
    (case kTa => k_is)
    (case aWr => k_is)
    (case lWr => k_is)
    (case cWr => k_is)
    (case kWr => k_is)
    (case aDu => k_is)
    (case lDu => k_is)
    (case cDu => k_is)
    (case kDu => k_is)
    (case aFa => k_is)
    (case lFa => k_is)
    (case cFa => k_is)
    (case kFa => k_is)
    (case aOd => k_is)
    (case lOd => k_is)
    (case cOd => k_is)
    (case kOd => k_is)
    (case aTi => k_is)
    (case lTi => k_is)
    (case cTi => k_is)
    (case kTi => k_is)
    (case aET => k_is)
    (case lET => k_is)
    (case cET => k_is)
    (case kET => k_is)
    (case aWo => k_is)
    (case lWo => k_is)
    (case cWo => k_is)
    (case kWo => k_is)
    (case aGi => k_is)
    (case lGi => k_is)
    (case cGi => k_is)
    (case kGi => k_is)
    (case aFw => k_is)
    (case lFw => k_is)
    (case cFw => k_is)
    (case kFw => k_is)
    (case aKi => k_is)
    (case lKi => k_is)
    (case cKi => k_is)
    (case kKi => k_is)
    (case aKb => k_is)
    (case lKb => k_is)
    (case cKb => k_is)
    (case kKb => k_is)
    (case aTu => k_is)
    (case lTu => k_is)
    (case cTu => k_is)
    (case kTu => k_is)
    (case aTb => k_is)
    (case lTb => k_is)
    (case cTb => k_is)
    (case kTb => k_is)
    (case aLr => k_is)
    (case lLr => k_is)
    (case cLr => k_is)
    (case kLr => k_is)
    (case aLd => k_is)
    (case lLd => k_is)
    (case cLd => k_is)
    (case kLd => k_is)
    (case iFET => k_is)
    (case iFWo => k_is)
    (case iFGi => k_is)
    (case iFFw => k_is)
    (case iFKb => k_is)
    (case iFTb => k_is)
    (case iFLr => k_is)
    (case iFLd => k_is)
    (case neCT => k_is)
    (case gLcm => k_is)
    (case g_MOST => k_is)
    (case g_MOST_WORTH => k_is)
    (case g_BIGGEST => k_is)
    (case pgCT => k_is)
    (case hdCT => k_is)
    (case poCT => k_is)
    (case saCT => k_is)
    (case nbeginCT => k_is)
    (case nperiodCT => k_is)
    (case nnumbersCT => k_is)
    (case haCT => k_is)
    (case hmCT => k_is)
    (case mkCT => k_is)
    (case kpCT => k_is)
    (case iFTi => k_is)
    (case kt_CT_CT => kit_is)
    (case pgCK => k_is)
    (case hdCK => k_is)
    (case poCK => k_is)
    (case saCK => k_is)
    (case nruleCK => k_is)
    (case nheapCK => k_is)
    (case nleftCK => k_is)
    (case mkCK => k_is)
    (case kpCK => k_is)
    (case iFKi => k_is)
    (case pgCU => k_is)
    (case hdCU => k_is)
    (case poCU => k_is)
    (case saCU => k_is)
    (case nruleCU => k_is)
    (case nheapCU => k_is)
    (case nleftCU => k_is)
    (case mkCU => k_is)
    (case kpCU => k_is)
    (case iFTu => k_is)
    (case nifi => kit_is)
    (case nifb => kit_is)
    (case nidi => kit_is)
    (case nidb => kit_is)
    (case aL => k_is)
    (case lL => k_is)
    (case cL => k_is)
    (case kL => k_is)
#print axioms PySem.Challenge.cw_freetakes_k68_turned_heaps_looked_at_holds
