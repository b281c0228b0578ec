import PyProof.Rows.All
import Wide.All
import OpenK.AllK
import Wide.FinOn
import HandS.ForMost
import HandS.ForExc
import HandS.DictComp
import KE.KExcIs
import HandS.ExcInit
import HandS.ExcField
import HandS.IsInst
import HandS.SetFor
import HandS.Flow
import HandS.Walk
import HandS.Evl
import HandS.Conv
import HandS.OwnEq
import HandS.FStr
import HandS.Star
import KE.GoesEnumKw
import KE.SortData
import HandS.TupLe
import Flt.Ops
import HandS.Zip
import HandS.TupAny
import HandS.StrMore
import HandS.Style
import HandS.More
import HandS.WordsDict
import HandS.Lambda
import HandS.ExcCtx
import HandS.HotCalls
import HandS.Comp
import HandS.Iter
import HandS.ExcIs
import HandS.Dict
import HandS.EndTab
import HandS.SetBool
import HandS.SetKeys
import PyProof.DictDisplay
import PyProof.DictUpdate
import PyProof.NeKinds
import PySem.Challenge.RW_healedwebs_k39_what_breakers_refuse
set_option Elab.async false
set_option linter.all false
set_option maxRecDepth 100000
set_option maxHeartbeats 2000000
namespace Hw
open PySem L2 PyProof.Rows

/-! generic: powers of great ints, heaps but one place -/
def CPowW (i j : Int) : Prop := 0 ≤ j ∧ (Builtin.Int.intBits i : Int) * j ≤ 2 ^ 27
theorem op_powW {X : Cx} : OpR X (binaryOp .Pow) (rI CPowW fun i j => .int (i ^ j.toNat)) :=
  opI fun _ _ _ _ _ _ _ hc q => pow_int hc.1 hc.2 q
/-- all that is tracked but at a stays -/
def SameX (a : Addr) (H H' : Hp) : Prop := ∀ b o, b ≠ a → H b = some o → H' b = some o
theorem SameX.refl (a : Addr) (H : Hp) : SameX a H H := fun _ _ _ h => h
theorem SameX.trans {a : Addr} {H H1 H2 : Hp} (x : SameX a H H1) (y : SameX a H1 H2) : SameX a H H2 := fun b o hb h => y b o hb (x b o hb h)
theorem SameX.of {a : Addr} {H H' : Hp} (s : Same H H') : SameX a H H' := fun b o _ h => s b o h
theorem SameX.put {a : Addr} {H H' : Hp} {o : HO} (s : SameX a H H') : SameX a H (upd H' a o) := fun b u hb h => by
  rw [upd_ne hb]; exact s b u hb h
theorem SameX.free {a b : Addr} {H H' : Hp} (s : SameX a H H') (ha : H' a ≠ none) (h : H' b = none) : H b = none := by
  cases q : H b with
  | none => rfl
  | some o =>
    have hb : b ≠ a := fun e => ha (e ▸ h)
    rw [s b o hb q] at h; cases h
theorem same_upd {H : Hp} {p : Addr} {o : HO} (h : H p = none) : Same H (upd H p o) := fun b x e => by
  rw [upd_ne (ne_of_none e h)]; exact e
theorem sql_of {K : PySem.W.Frag} {H : Hp} {a : Addr} {xs : List V} (h : H a = some (.lst xs)) : SqL K H a xs := .inl (.inl h)
theorem sqt_of {K : PySem.W.Frag} {H : Hp} {a : Addr} {xs : List V} (h : H a = some (.tup xs)) : SqT K H a xs := .inl (.inl h)

/-! a pot: three ints, the third at most N -/
structure Pot (H : Hp) (a : Addr) (N : Nat) : Prop where
  ex : ∃ x y z : Int, H a = some (.lst [.int x, .int y, .int z]) ∧ 0 ≤ x ∧ 0 ≤ y ∧ y < 2 ^ 61 ∧ 0 ≤ z ∧ z ≤ N
theorem Pot.mono {H : Hp} {a : Addr} {N M : Nat} (p : Pot H a N) (h : N ≤ M) : Pot H a M := by
  obtain ⟨x, y, z, e, h1, h2, h3, h4, h5⟩ := p.ex
  exact ⟨x, y, z, e, h1, h2, h3, h4, by omega⟩
theorem Pot.same {H H' : Hp} {a : Addr} {N : Nat} (p : Pot H a N) (s : Same H H') : Pot H' a N := by
  obtain ⟨x, y, z, e, h⟩ := p.ex
  exact ⟨x, y, z, s _ _ e, h⟩
theorem Pot.some {H : Hp} {a : Addr} {N : Nat} (p : Pot H a N) : H a ≠ none := by
  obtain ⟨x, y, z, e, _⟩ := p.ex
  rw [e]; exact fun q => nomatch q
/-- what a place of the script is worth to a draw: any int -/
def spPot (K : PySem.W.Frag) : Sp := fun vs H Q _ => ∃ (a : Addr) (ns : List Int) (i : Int), vs = [.ref a, .int i] ∧ SqL K H a (ns.map V.int) ∧ ns.length ≤ 63 ∧ 0 ≤ i ∧ i < 1000 ∧
  ∀ p H', Same H H' → H p = none → Pot H' p 0 → Q (.ref p) H'
/-- a draw below u -/
def spTake : Sp := fun vs H Q _ => ∃ (a : Addr) (u : Int) (N : Nat), vs = [.ref a, .int u] ∧ Pot H a N ∧ N < 1000000000 ∧ 0 < u ∧ u < 1000000000 ∧
  ∀ r H', 0 ≤ r → r < u → SameX a H H' → Pot H' a (N + 1) → Q (.int r) H'
/-- one of the items of a list -/
def spOf (K : PySem.W.Frag) : Sp := fun vs H Q _ => ∃ (a b : Addr) (xs : List V) (N : Nat), vs = [.ref a, .ref b] ∧ Pot H a N ∧ N < 1000000000 ∧ SqL K H b xs ∧ a ≠ b ∧ 0 < xs.length ∧ xs.length < 1000000000 ∧
  ∀ (i : Nat) v H', xs[i]? = some v → SameX a H H' → Pot H' a (N + 1) → Q v H'
/-- the places of the script that are looked at -/
def spCells (K : PySem.W.Frag) : Sp := fun vs H Q _ => ∃ (a : Addr) (xs : List V) (m : Int), vs = [.ref a, .int m] ∧ SqL K H a xs ∧ xs.length ≤ 63 ∧ 0 < m ∧ m < 1000 ∧
  ∀ (n : Nat) p H', 0 < n → (n : Int) ≤ m → Same H H' → H p = none → H' p = some (.lst ((List.range n).map fun i : Nat => V.int (i : Int))) → Q (.ref p) H'
theorem bits_nat {i : Int} {n : Nat} (h : i.natAbs < 2 ^ n) : Builtin.Int.intBits i ≤ n := intBits_le h
end Hw

set_option Elab.async false
set_option linter.all false
set_option maxRecDepth 100000
set_option maxHeartbeats 4000000
namespace Hw
open PySem L2 PyProof.Rows
/-! defs that know that no repr runs around them -/
structure RoomG (k : Nat) (A : Around) : Prop where
  r : Room k A
  g : A.guards = some []
theorem RoomG.mono {j k : Nat} {A : Around} (r : RoomG k A) (h : j ≤ k) : RoomG j A := ⟨r.r.mono h, r.g⟩
theorem RoomG.deeper {k : Nat} {A : Around} (r : RoomG (k + 1) A) (env : Env) : RoomG k (A.deeper env) := ⟨r.r.deeper env, r.g⟩
theorem RoomG.make {k : Nat} {A : Around} (r : RoomG (k + 1) A) (C : Addr) (us : List Value) (kw : List (Str × Value)) : RoomG k (A.under (.builtin "type.__call__" ⟨.ref C :: us, kw⟩)) :=
  ⟨r.r.make C us kw, by
    have e : (A.under (.builtin "type.__call__" ⟨.ref C :: us, kw⟩)).guards = A.guards := by
      first | rfl | simp [Around.under, Code.guards, pushGuards, Code.isGuard, guardIds]
    rw [e]; exact r.g⟩
section
variable (P : Program) (w : World) (K : PySem.W.Frag) (mg : Str → Option Value) (base : Heap)
structure FnG (CX : CXT) (k : Nat) (f : Addr) (fd : FuncData) (ps : List Str) (sp : Sp) : Prop where
  len : ∀ vs H Q E, sp vs H Q E → vs.length = ps.length
  run : ∀ (A : Around) (outer : List Env) (s : Shared) (H : Hp) (args : Args) (us : List Value) (vs : List V) (Q : VK) (E : XK), RoomG k A → Env0 P w K mg base A outer s H →
    BindsTo s fd args (ps.zip us) → Vals vs us → sp vs H Q E → codeAny (model P w) A (.call (.ref f) args) (CR CX outer P w H s Q E) s
end
section
variable {P : Program} {w : World} {K : PySem.W.Frag} {mg : Str → Option Value} {base : Heap} {CX : CXT} {k : Nat} {f : Addr} {fd : FuncData} {ps : List Str} {sp sp' : Sp}
theorem toG (F : FnOk P w K mg base CX k f fd ps sp) : FnG P w K mg base CX k f fd ps sp := ⟨F.len, fun A o s H a us vs Q E hr => F.run A o s H a us vs Q E hr.r⟩
theorem FnG.mono {j : Nat} (F : FnG P w K mg base CX j f fd ps sp) (h : j ≤ k) : FnG P w K mg base CX k f fd ps sp := ⟨F.len, fun A o s H a us vs Q E hr => F.run A o s H a us vs Q E (hr.mono h)⟩
theorem FnG.imp (F : FnG P w K mg base CX k f fd ps sp) (h : ∀ vs H Q E, sp' vs H Q E → sp vs H Q E) : FnG P w K mg base CX k f fd ps sp' :=
  ⟨fun vs H Q E q => F.len vs H Q E (h _ _ _ _ q), fun A o s H a us vs Q E hr he hb hv hs => F.run A o s H a us vs Q E hr he hb hv (h _ _ _ _ hs)⟩
end
section
variable {X : Cx} {CX : CXT} {k : Nat} {f C : Addr} {fd : FuncData} {ps : List Str} {sp : Sp} {dvs : List V} {ds : List Value} {E : XK} {x m : Str} {p pos apos : Pos} {e o : Expr} {es : List Expr} {ta : TE} {t : TA}
theorem runG {pins : List (Addr × Obj)} {σ : L2.St} {H : Hp} {s : Shared} {Q : VK} {us : List Value} {vs : List V} (F : FnG X.prog X.w X.K X.mg X.base CX k f fd ps sp) (hr : RoomG k X.A) (hb : Binds X.K fd ps ds) (hd : Vals dvs ds)
    (hx : Passes CX X E) (I : Inv X pins σ H s) (r : Vals vs us) (h : sp (vs ++ dvs) H Q E) : wpAny (model X.prog X.w) X.A (call (.ref f) us) (EP X pins σ Q) X.xe s := by
  have rr : Vals (vs ++ dvs) (us ++ ds) := r.append hd
  have ll : (us ++ ds).length = ps.length := rr.length.symm.trans (F.len _ _ _ _ h)
  refine wpAny_call (codeAny_mono (F.run X.A X.stack s H ⟨us, []⟩ (us ++ ds) (vs ++ dvs) Q E hr I.env0 (hb s us I.kIn ll) rr h) fun r' s' hq => ?_)
  match r', hq with
  | .error er, hq => exact hx pins σ H s er s' I hq
  | .ok (.ret u), hq => exact I.after hq
  | .ok .next, hq => exact False.elim hq
  | .ok .brk, hq => exact False.elim hq
  | .ok .cont, hq => exact False.elim hq
theorem pe_callG (F : FnG X.prog X.w X.K X.mg X.base CX k f fd ps sp) (hr : RoomG k X.A) (hg : Gl X x) (hm : X.mg x = some (.ref f)) (hk : PySem.W.keepIn X.K (.ref f) = true) (hb : Binds X.K fd ps ds) (hd : Vals dvs ds)
    (hx : Passes CX X E) (ha : PA X (e :: es) t) (hdb : (x == ("__debug__" : Str)) = false := by decide) (he : starEach (e :: es) X.env = (false, eval e X.env) :: starEach es X.env := by rfl)
    (hpl : (backTo pos (starEach es X.env)).any (·.1) = false := by rfl) : PE X (.Call (.Name x p) (e :: es) [] pos) (tCall sp dvs E t) :=
  ⟨fun pins s σ H Q I h => wpAny_Call_Name_kw (ld_glob I hg hm (PySem.W.callWith_K (h₀ := X.base) I.ok.mod.kin hk (thn (ha.run pos pins s σ H _ I h) fun us s1 ⟨vs, H1, I1, r, q⟩ => ⟨I1.kIn, runG F hr hb hd hx I1 r q⟩) he hpl) hdb)⟩
theorem pe_call0G (F : FnG X.prog X.w X.K X.mg X.base CX k f fd ps sp) (hr : RoomG k X.A) (hg : Gl X x) (hm : X.mg x = some (.ref f)) (hk : PySem.W.keepIn X.K (.ref f) = true) (hb : Binds X.K fd ps ds) (hd : Vals dvs ds)
    (hx : Passes CX X E) (hdb : (x == ("__debug__" : Str)) = false := by decide) : PE X (.Call (.Name x p) [] [] pos) (tCall sp dvs E tNil) :=
  ⟨fun pins s σ H Q I h => wpAny_Call_Name_kw (ld_glob I hg hm (PySem.W.callWith_K0 I.kIn hk (runG (us := []) F hr hb hd hx I .nil h)) hdb)⟩
end
/-- a def by its body -/
theorem fnG_of {CX : CXT} {P : Program} {w : World} {K : PySem.W.Frag} {mg : Str → Option Value} {base : Heap} {k : Nat} {f : Addr} {name qual : Str} {params : Arguments} {body : List Stmt} {scope : Scope} {dV kV doc pm cdv ct oc : Value} {an od : Option Addr}
    {osl : Array (Option Value)} {N ps : List Str} {sp : Sp} (lk : K.lookup f = some ⟨oc, od, .func (PySem.W.fnOf name qual params body scope dV kV doc pm an cdv ct), osl⟩) (hcd : PySem.W.codeIn K cdv qual = true)
    (S : FnScope N ps scope) (len : ∀ vs H Q E, sp vs H Q E → vs.length = ps.length)
    (hbody : ∀ (A : Around) (outer : List Env) (s : Shared) (H : Hp) (vs : List V) (Q : VK) (E : XK), RoomG k (A.deeper (envOfC qual scope s.heap.objs.size f cdv)) → sp vs H Q E →
      ∃ t, PSs (cxOf CX P w K mg base N qual scope f cdv A outer s H E) body t ∧ t { nx := fun _ H' => Q .non H', rt := Q } (start N vs) H) :
    FnG P w K mg base CX (k + 1) f (PySem.W.fnOf name qual params body scope dV kV doc pm an cdv ct) ps sp := by
  refine ⟨len, fun A outer s H args us vs Q E hr e0 hb r hsp => ?_⟩
  have nl := len _ _ _ _ hsp
  have kin : K.In s.heap := e0.mod.kin.keeps fun b o e => (e0.bs b o e).1
  have nolim : s.heap.NoLimit := e0.mod.nolimit.keeps fun b o e => (e0.bs b o e).1
  have kinds : ∀ y ∈ ps.zip us, scope.names.lookup y.1 = some .local ∨ (scope.names.lookup y.1 = some .cell ∧ ((cellsFrom (s.heap.objs.size + 1) scope.names []).lookup y.1).isSome = true) := by
    rintro ⟨n, v⟩ hy
    rcases S.par n (List.of_mem_zip hy).1 with q | q
    · left; exact q
    · right; exact ⟨q, PySem.W.cellsFrom_some _ _ _ (.inl q)⟩
  refine codeAny_call_function hr.r.depth (kin _ _ lk) rfl S.co S.gen rfl (PySem.W.codeRec_of kin hcd) (hb _ _ _ _ ?_)
  refine wpAny_newFunctionEnv_cells S.kind kinds fun env he s1 x => ?_
  subst he
  refine ⟨nolim.keeps x.toInCall.keep, codeAny_func ?_⟩
  obtain ⟨t, ht, hq⟩ := hbody A outer s H vs Q E (hr.deeper _) hsp
  have I0 : Inv (cxOf CX P w K mg base N qual scope f cdv A outer s H E) [] (start N vs) H s1 := inv_start S hr.r.hd e0 nl r x
  refine wpAny_mono (ht.run [] s1 (start N vs) H _ I0 hq) (fun fl s' hs => ?_) fun _ _ hs => hs
  have done : ∀ {σ' : L2.St} {H' : Hp} {v : V} {u : Value}, Inv (cxOf CX P w K mg base N qual scope f cdv A outer s H E) [] σ' H' s' → RelV v u → Q v H' → CE outer P w H s Q u s' :=
    fun {_ H' v _} J rv q => ⟨v, H', J.os, J.bare, J.base, J.hok, rv, q⟩
  match fl, hs with
  | .ret u, ⟨v, σ', H', J, rv, q⟩ => exact done J rv q
  | .next, ⟨σ', H', J, q⟩ => exact done (v := V.non) (u := Value.none) J rfl q
  | .brk, ⟨_, _, _, q⟩ => exact False.elim q
  | .cont, ⟨_, _, _, q⟩ => exact False.elim q
section
variable {P : Program} {w : World} {K : PySem.W.Frag} {mg : Str → Option Value} {base : Heap}
theorem funG {x qual : Str} {st : Stmt} {f : Addr} {fd : FuncData} {N ps : List Str} {k : Nat} {sp : Sp} (F : Fun K x qual st f fd) (S : FnScope N ps (defScope st)) (len : ∀ vs H Q E, sp vs H Q E → vs.length = ps.length)
    (hbody : ∀ (cdv : Value) (A : Around) (outer : List Env) (s : Shared) (H : Hp) (vs : List V) (Q : VK) (E : XK), RoomG k (A.deeper (envOfC qual (defScope st) s.heap.objs.size f cdv)) → sp vs H Q E →
      ∃ t, PSs (cxOf CX0 P w K mg base N qual (defScope st) f cdv A outer s H E).nox (defBody st) t ∧ t { nx := fun _ H' => Q .non H', rt := Q } (start N vs) H) : FnG P w K mg base CX0 (k + 1) f fd ps sp := by
  obtain ⟨oc, od, kV, doc, pm, an, cdv, ct, osl, rfl, lk, hcd⟩ := F.ex
  exact fnG_of lk hcd S len fun A outer s H vs Q E hr hsp => by
    obtain ⟨t, h, q⟩ := hbody cdv A outer s H vs Q E hr hsp
    exact ⟨t, h.nox, q⟩
theorem funGX {x qual : Str} {st : Stmt} {f : Addr} {fd : FuncData} {N ps : List Str} {k : Nat} {sp : Sp} (F : Fun K x qual st f fd) (S : FnScope N ps (defScope st)) (len : ∀ vs H Q E, sp vs H Q E → vs.length = ps.length)
    (hbody : ∀ (cdv : Value) (A : Around) (outer : List Env) (s : Shared) (H : Hp) (vs : List V) (Q : VK) (E : XK), RoomG k (A.deeper (envOfC qual (defScope st) s.heap.objs.size f cdv)) → sp vs H Q E →
      ∃ t, PSs (cxOf (L2.CX P w) P w K mg base N qual (defScope st) f cdv A outer s H E) (defBody st) t ∧ t { nx := fun _ H' => Q .non H', rt := Q } (start N vs) H) : FnG P w K mg base (L2.CX P w) (k + 1) f fd ps sp := by
  obtain ⟨oc, od, kV, doc, pm, an, cdv, ct, osl, rfl, lk, hcd⟩ := F.ex
  exact fnG_of lk hcd S len fun A outer s H vs Q E hr hsp => hbody cdv A outer s H vs Q E hr hsp
end
/-- the law's call -/
theorem lawG {P : Program} {w : World} {K : PySem.W.Frag} {mg mb : Str → Option Value} {k : Nat} {fa a : Addr} {fd : FuncData} {x : Str} {sp : Sp} {s1 : Shared} {vs : List Value} {ns : List Int}
    (KX : K.In s1.heap) (hns : s1.heap.Ns mainGlobals mg) (hb : s1.heap.Ns builtinsNs mb) (hbb : ∀ x : Str, x ≠ "__name__" → mb x = bootBuiltins x) (hlim : s1.heap.NoLimit) (hgen : s1.gens = #[])
    (ha : s1.heap.get? a = some { cls := .type "list", data := .seq vs.toArray }) (hi : IntsAre vs ns) (hl : ns.length ≤ sizeLine) (hr : Room k callerA)
    (F : ∀ base : Heap, K.In base → base.Ns mainGlobals mg → FnG P w K mg base CX0 k fa fd [x] sp) (hbind : ∀ (s : Shared) (u : Value), BindsTo s fd ⟨[u], []⟩ [(x, u)])
    (hsp : ∀ H : Hp, Only H → SqL K H a (ns.map V.int) → sp [.ref a] H (fun v _ => v = .bl true) E0) :
    codeAny (model P w) callerA (.call (.ref fa) ⟨[.ref a], []⟩) (fun r s' => r = .ok (.ret (.bool true)) ∧ OldK s1.heap s'.heap ∧ s'.os = s1.os ∧ AllBare s'.gens) s1 := by
  have rv := vals_ints hi
  have core : ∀ H : Hp, Only H → SqL K H a (ns.map V.int) → HOk P w H s1.heap → (∀ b, H b ≠ none → b = a) → (H a ≠ none → K.lookup a = none) →
      codeAny (model P w) callerA (.call (.ref fa) ⟨[.ref a], []⟩) (fun r s' => r = .ok (.ret (.bool true)) ∧ OldK s1.heap s'.heap ∧ s'.os = s1.os ∧ AllBare s'.gens) s1 := by
    intro H hO hS hok onlyA notK
    have hid : ∀ {b : Addr} {o : Obj}, s1.heap.get? b = some o → H b = none → (hidT s1.heap H).get? b = some o := fun e n => hidT_get e n
    have free : ∀ {b : Addr}, (b = a → False) → H b = none := fun {b} h => by
      cases q : H b with
      | none => rfl
      | some u => exact (h (onlyA b (by rw [q]; simp))).elim
    have nsH : ∀ {b : Addr} {m : Str → Option Value}, s1.heap.Ns b m → (hidT s1.heap H).Ns b m := fun {b m} ⟨o, es, ep, e, d, r⟩ => by
      refine ⟨o, es, ep, hid e (free fun z => ?_), d, r⟩
      subst z
      rw [ha] at e
      have e' := Option.some.inj e
      rw [← e'] at d
      cases d
    have kinH : K.In (hidT s1.heap H) := fun b o e => by
      refine hid (KX b o e) ?_
      by_cases hba : b = a
      · subst hba
        cases q : H b with
        | none => rfl
        | some u =>
          have z := notK (by rw [q]; simp)
          rw [e] at z; cases z
      · exact free hba
    have modH : Mod K mg (hidT s1.heap H) := ⟨kinH, nsH hns, ⟨mb, nsH hb, hbb⟩, let ⟨mc, h1, h2⟩ := hlim; ⟨mc, nsH h1, h2⟩⟩
    have env0 : Env0 P w K mg (hidT s1.heap H) callerA [] s1 H := ⟨rfl, modH, fun b o e => of_hidT e, Nat.le_of_eq (hidT_size _ _), trivial, fun b hb => (by cases hb), hok, .of_eq hgen⟩
    refine codeAny_mono ((F _ kinH (nsH hns)).run callerA [] s1 H ⟨[.ref a], []⟩ [.ref a] [.ref a] _ _ ⟨hr, rfl⟩ env0 (hbind s1 (.ref a)) (.cons rfl .nil) (hsp H hO hS)) fun r s' h => ?_
    match r, h with
    | .error e, h => exact False.elim h
    | .ok .next, h => exact False.elim h
    | .ok .brk, h => exact False.elim h
    | .ok .cont, h => exact False.elim h
    | .ok (.ret u), h =>
      obtain ⟨v, H', os, bare, un, hok', r', q⟩ := h
      obtain rfl : v = .bl true := q
      obtain rfl : u = Value.bool true := r'
      refine ⟨rfl, OldK.of_keep fun b o e => ?_, os, bare⟩
      cases q : H b with
      | none => exact un.keep b o e q (by intro z; cases z) (by intro z; cases z)
      | some u =>
        obtain ⟨ob, xs, z⟩ : ∃ o xs, H b = some (.frz o (.lst xs)) := (hO b).resolve_left (by rw [q]; simp)
        have e1 := (hok b _ z).1
        have e2 := (hok' b _ (un.frzs b ob _ z)).1
        rw [e] at e1
        cases e1
        exact e2
  cases hk : K.lookup a with
  | some o =>
    have e := KX a o hk
    rw [ha] at e
    cases e
    exact core (fun _ => none) (fun _ => .inl rfl) (.inr ⟨_, vs.toArray, _, hk, rfl, rfl, rfl, by rw [List.size_toArray, hi.length]; exact hl, by simpa using rv⟩) (fun b u z => by cases (show (none : Option HO) = some u from z)) (fun b z => absurd rfl z) fun z => absurd rfl z
  | none =>
    have at_ : ∀ {b : Addr}, b ≠ a → (if b = a then some (HO.frz { cls := .type "list", data := .seq vs.toArray } (.lst (ns.map V.int))) else none) = none := fun h => if_neg h
    refine core (fun b => if b = a then some (.frz { cls := .type "list", data := .seq vs.toArray } (.lst (ns.map V.int))) else none) (fun b => ?_) (.inl (.inr ⟨{ cls := .type "list", data := .seq vs.toArray }, if_pos rfl⟩)) (fun b u z => ?_) (fun b z => ?_) fun _ => hk
    · by_cases hba : b = a
      · exact .inr ⟨_, _, if_pos hba⟩
      · exact .inl (at_ hba)
    · by_cases hba : b = a
      · subst hba
        have z' := (if_pos rfl).symm.trans z
        cases z'
        exact ⟨ha, by rw [List.length_map]; exact hl, vs, _, rv, ha⟩
      · have z' := (at_ hba).symm.trans z
        cases z'
    · by_cases hba : b = a
      · exact hba
      · exact absurd (at_ hba) z
theorem walkG {l : PySem.W.OpenLaw} {n k : Nat} {q : Program} {loose : List Str} {XP : (Str → Option Value) → Heap → Prop} {YP : World → Heap → Prop} {d : DefRec} {K : Params → PySem.W.Frag} {sp : World → Sp} {x : Str}
    (hn : l.most = some n) (hn2 : n ≤ sizeLine) (hdf : d.params.defaults = []) (hr : Room k callerA) (hY : ∀ (w : World) (h : Heap), YP w h → (K w.params).In h)
    (F : ∀ (w : World) (mg : Str → Option Value) (fa : Addr) (h : Heap), (K w.params).In h → h.Ns mainGlobals mg → mg d.name = some (.ref fa) →
      ∃ fd : FuncData, (∀ (s : Shared) (u : Value), BindsTo s fd ⟨[u], []⟩ [(x, u)]) ∧ ∀ base : Heap, (K w.params).In base → base.Ns mainGlobals mg → FnG l.prog w (K w.params) mg base CX0 k fa fd [x] (sp w))
    (hsp : ∀ (w : World) (H : Hp) (a : Addr) (ns : List Int), ns.length ≤ n → Only H → SqL (K w.params) H a (ns.map V.int) → sp w [.ref a] H (fun v _ => v = .bl true) E0) :
    PySem.W.WalkO q loose XP YP l.row.toRowW d [] (fun f vs => PySem.call f vs) := by
  refine Att.attach_call hn hdf fun w s0 s1 mg mb fa o pm cd doc a vs ns G Y ho hd hcd hmg hobj hints hlen hgen => ?_
  have KX := hY w _ Y
  obtain ⟨fd, hb, hF⟩ := F w mg fa _ KX G.T.g hmg
  exact lawG KX G.T.g G.T.b G.T.builtins G.T.nolimit hgen hobj hints (Nat.le_trans hlen hn2) hr hF hb (fun H hO hS => hsp w H a ns hlen hO hS)
end Hw

set_option Elab.async false
set_option linter.all false
set_option maxRecDepth 100000
set_option maxHeartbeats 4000000
namespace Hw
open PySem L2 PyProof.Rows
/-! repr of data -/
mutual
theorem Dp_noDict {K : PySem.W.Frag} {H : Hp} : ∀ (d : PyData) (v : V), Dp K H v d → d.hasDict = false
  | .none, _, _ => by simp only [PyData.hasDict]
  | .bool _, _, _ => by simp only [PyData.hasDict]
  | .int _, _, _ => by simp only [PyData.hasDict]
  | .str _, _, _ => by simp only [PyData.hasDict]
  | .list ds, _, h => by
    cases h with
    | lst _ ha => simp only [PyData.hasDict]; exact DpAll_noDict ds _ ha
  | .tuple ds, _, h => by
    cases h with
    | tup _ ha => simp only [PyData.hasDict]; exact DpAll_noDict ds _ ha
  | .dict _, _, h => nomatch h
theorem DpAll_noDict {K : PySem.W.Frag} {H : Hp} : ∀ (ds : List PyData) (vs : List V), DpAll K H vs ds → PyData.hasDictAll ds = false
  | [], _, _ => by simp only [PyData.hasDictAll]
  | d :: ds, _, h => by
    cases h with
    | cons h1 h2 =>
      simp only [PyData.hasDictAll]
      rw [Dp_noDict d _ h1, DpAll_noDict ds _ h2]; rfl
end
/-- what is flat, as data -/
def flatPD : V → Option PyData
  | .non => some .none
  | .bl b => some (.bool b)
  | .int i => some (.int i)
  | .str x => some (.str x)
  | _ => none
def keyPD : Key → PyData
  | .inl i => .int i
  | .inr x => .str x
/-- a dict with flat values, as data -/
def DpK (H : Hp) (v : V) (d : PyData) : Prop := ∃ (a : Addr) (kvs : List (Key × V)) (ds : List (PyData × PyData)), v = .ref a ∧ H a = some (.dK kvs) ∧ d = .dict ds ∧
  Paired (fun p q => q.1 = keyPD p.1 ∧ flatPD p.2 = some q.2) kvs ds
def rRepr (K : PySem.W.Frag) : List V → Hp → VK → Prop := fun xs H Q => ∃ (x : V) (d : PyData), xs = [x] ∧ (Dp K H x d ∨ DpK H x d) ∧ d.showable = true ∧ d.depth ≤ 60 ∧ d.shown.length ≤ sizeLine ∧ Q (.str d.shown) H
theorem flat_reads {h : Heap} {v : V} {d : PyData} {u : Value} (e : flatPD v = some d) (r : RelV v u) : Reads h u d [] := by
  cases v with
  | non => cases e; cases r; exact .none
  | bl b => cases e; cases r; exact .bool b
  | int i => cases e; obtain ⟨t, rfl⟩ := r; exact .int i t
  | str x => cases e; obtain ⟨t, rfl⟩ := r; exact .str x t
  | byt b => cases e
  | flt b => cases e
  | ref a => cases e
  | ty n => cases e
theorem key_reads {P : Program} {w : World} {h : Heap} {k : Key} {u : Value} (e : (mixKind P w).is k u = true) : Reads h u (keyPD k) [] := by
  rcases keyIs_shape e with ⟨i, t, rfl, rfl⟩ | ⟨x, t, rfl, rfl⟩
  · exact .int i t
  · exact .str x t
theorem dict_reads {P : Program} {w : World} {h : Heap} : ∀ {kvs : List (Key × V)} {ds : List (PyData × PyData)} {vs : List (Key × Value)} {es : List DictEntry}, Paired (fun p q => q.1 = keyPD p.1 ∧ flatPD p.2 = some q.2) kvs ds → KV kvs vs → PySem.Pairs (mixKind P w) es vs →
    ReadsAll h (es.map (·.key)) (ds.map (·.1)) [] ∧ ReadsAll h (es.map (·.val)) (ds.map (·.2)) []
  | [], _, _, _, .nil, kv, pr => by cases kv; cases pr; exact ⟨.nil, .nil⟩
  | p :: kvs, q :: ds, _, _, .cons a t, kv, pr => by
    cases kv with
    | cons k1 k2 =>
      cases pr with
      | cons p1 p2 p3 =>
        obtain ⟨r1, r2⟩ := dict_reads t k2 p3
        obtain ⟨e1, e2⟩ := a
        refine ⟨?_, ?_⟩
        · have z : ReadsAll h _ _ ([] ++ []) := .cons (key_reads (h := h) p1) r1
          rw [← k1.1, ← e1] at z
          exact z
        · have y := flat_reads (h := h) e2 k1.2
          rw [← p2] at y
          exact (ReadsAll.cons y r2 : ReadsAll h _ _ ([] ++ []))
section
variable {X : Cx}
theorem call_repr (hg : X.A.guards = some []) (hu : X.A.units + 100 < cLine) : CallR X (.builtin "repr") (rRepr X.K) := by
  intro pins s σ H xs us Q I r h
  obtain ⟨x, d, rfl, hd, hs, hdp, hz, q⟩ := h
  obtain ⟨u, w', rfl, ru, rw'⟩ : ∃ u w', us = [u] ∧ RelV x u ∧ w' = us := by
    cases r with
    | cons a t => cases t; exact ⟨_, _, rfl, a, rfl⟩
  have fin : ∀ h' (tk : Tok) (tk' : Nat), (∀ b o, s.heap.get? b = some o → h'.get? b = some o) → EP X pins σ Q (.str d.shown tk) { s with heap := h', toks := tk' } := fun h' tk tk' k => ⟨.str d.shown, H, I.kept (t' := tk') k, ⟨tk, rfl⟩, q⟩
  have big : ∀ {a : Addr} {as : List Addr}, Reads s.heap (.ref a) d as → (d.hasDict = true → sysModules ∉ as) → wpAny (model X.prog X.w) X.A (call (.builtin "repr") [.ref a]) (EP X pins σ Q) X.xe s := fun {a as} r1 hm =>
    repr_of_reads' (h₀ := s.heap) r1 hs hm hg (by omega) (fun _ _ e => e) (fun h' u tk k => fin h' u tk k) hz
  rcases hd with hd | ⟨a, kvs, ds, rfl, ha, rfl, hp⟩
  · have nd := Dp_noDict d x hd
    obtain ⟨as, r1⟩ := Dp.reads I d x u hd ru
    cases hd with
    | non => cases ru; exact P.repr_of_none (fin s.heap _ _ fun _ _ e => e)
    | bl b =>
      cases ru
      refine P.repr_of_bool ?_
      have z := fin s.heap s.toks (s.toks + 1) fun _ _ e => e
      simpa only [PyData.shown] using z
    | int i =>
      obtain ⟨t, rfl⟩ := ru
      refine P.repr_of_int (by simpa only [PyData.showable, decide_eq_true_eq] using hs) ?_
      have z := fin s.heap s.toks (s.toks + 1) fun _ _ e => e
      simpa only [PyData.shown] using z
    | str y =>
      obtain ⟨t, rfl⟩ := ru
      refine P.repr_of_str ?_ (by simpa only [PyData.shown] using hz)
      have z := fin s.heap s.toks (s.toks + 1) fun _ _ e => e
      simpa only [PyData.shown] using z
    | lst h1 h2 => cases ru; exact big r1 (by rw [nd]; exact fun z => nomatch z)
    | tup h1 h2 => cases ru; exact big r1 (by rw [nd]; exact fun z => nomatch z)
  · cases ru
    obtain ⟨hl, hsys, vs, kv, o, es, ep, ho, hex, hdat, _, hpr, _⟩ := dk_of I.hok ha
    obtain ⟨r1, r2⟩ := dict_reads (h := s.heap) hp kv hpr
    refine big (.dict ho hex.1 hdat r1 r2) fun _ hm => ?_
    have e : sysModules = a := by simpa using hm
    rw [← e] at hsys
    simp at hsys
end
end Hw

set_option Elab.async false
set_option linter.all false
set_option maxRecDepth 100000
set_option maxHeartbeats 4000000
namespace Hw
open PySem L2 PyProof.Rows
/-! an exception held as a value: the object at a, its own dict at d -/
def XAt (H : Hp) (a C d : Addr) (v : V) : Prop := H a = some (exo a C (some d)) ∧ H d = some (exd d [("value", v)])
theorem XAt.same {H H' : Hp} {a C d : Addr} {v : V} (x : XAt H a C d v) (s : Same H H') : XAt H' a C d v := ⟨s _ _ x.1, s _ _ x.2⟩
theorem XAt.sameX {H H' : Hp} {a C d p : Addr} {v : V} (x : XAt H a C d v) (s : SameX p H H') (ha : a ≠ p) (hd : d ≠ p) : XAt H' a C d v := ⟨s _ _ ha x.1, s _ _ hd x.2⟩
/-- what the written part says of such a class -/
structure XCls (K : PySem.W.Frag) (fI C : Addr) : Prop where
  o : OexC K C
  x : XfC K C
  noV : PySem.W.findIn K (.ref C) "value" = some none
  ini : PySem.W.findIn K (.ref C) "__init__" = some (some (.ref fI))
  tI : PySem.W.typeIn K (.ref fI) = some (.type "function")
  cl : (PySem.W.clsIn K C).isSome = true
  ha : PySem.W.findIn K (.ref C) "__class__" = some (some (.builtin "object.__class__"))
  hn : PySem.W.specialIn K (.builtin "object.__class__") "__get__" = some (some (.builtin "getset_descriptor.__get__"))
  ht : PySem.W.takesIn K (.builtin "object.__class__") = some true
  hm : PySem.W.mroIn K C (.type "object") = some true
def oexB (K : PySem.W.Frag) (C : Addr) : Bool := match K.lookup C with
  | some ⟨.type "type", _, .cls cd, sl⟩ => (match cd.mro, sl.toList with
    | .ref C' :: bm, [_, _, _, _, some (.builtin n), _] => C' == C && (n == "ValueError.__new__" && (!cd.hasDel && (cd.hasDict && PySem.HandSPX.refsVE bm)))
    | _, _ => false)
  | _ => false
theorem oexB_ok {K : PySem.W.Frag} {C : Addr} (q : oexB K C = true) :
    ∃ nm q N bs bm sn sub ab col dd k0 k1 k2 k3 k5, K.lookup C = some (excClassObj nm q C N bs bm true sn sub ab col dd k0 k1 k2 k3 k5 "ValueError.__new__") ∧ PySem.HandSPX.refsVE bm = true := by
  unfold oexB at q
  split at q
  · rename_i dd cd sl ho
    split at q
    · rename_i C' bm k0 k1 k2 k3 n k5 hm hs
      simp only [Bool.and_eq_true, beq_iff_eq, Bool.not_eq_true'] at q
      obtain ⟨rfl, rfl, hdel, hdi, hve⟩ := q
      obtain ⟨nm, bs, mro, ns, qn, hd, sn, sub, ab, col, del⟩ := cd
      dsimp only at hm hdel hdi
      subst hm hdel hdi
      have hsl : sl = #[k0, k1, k2, k3, some (.builtin "ValueError.__new__"), k5] := by
        obtain ⟨l⟩ := sl
        simp only at hs
        rw [hs]
      subst hsl
      exact ⟨nm, qn, ns, bs, bm, sn, sub, ab, col, dd, k0, k1, k2, k3, k5, ho, hve⟩
    · cases q
  · cases q
def xclsB (K : PySem.W.Frag) (fI C : Addr) : Bool :=
  oexB K C && (decide (PySem.W.findIn K (.ref C) "__setattr__" = some (some (.builtin "object.__setattr__"))) && (decide (PySem.W.subIn K (.ref C) (.type "BaseException") = some true) && (decide (PySem.W.typeIn K (.ref C) = some (.type "type")) && (PySem.W.keepIn K (.ref C) &&
  (xfB K C && (decide (PySem.W.findIn K (.ref C) "value" = some none) && (decide (PySem.W.findIn K (.ref C) "__init__" = some (some (.ref fI))) && (decide (PySem.W.typeIn K (.ref fI) = some (.type "function")) && ((PySem.W.clsIn K C).isSome &&
  (decide (PySem.W.findIn K (.ref C) "__class__" = some (some (.builtin "object.__class__"))) && (decide (PySem.W.specialIn K (.builtin "object.__class__") "__get__" = some (some (.builtin "getset_descriptor.__get__"))) &&
  (decide (PySem.W.takesIn K (.builtin "object.__class__") = some true) && decide (PySem.W.mroIn K C (.type "object") = some true)))))))))))))
theorem xclsB_ok {K : PySem.W.Frag} {fI C : Addr} (h : xclsB K fI C = true) : XCls K fI C := by
  unfold xclsB at h
  simp only [Bool.and_eq_true, decide_eq_true_eq] at h
  obtain ⟨a1, a2, a3, a4, a5, a6, a7, a8, a9, b1, b2, b3, b4, b5⟩ := h
  exact ⟨⟨oexB_ok a1, a2, a3, a4, a5⟩, xfB_ok a6, a7, a8, a9, b1, b2, b3, b4, b5⟩
/-- the promise of __init__(self, value) -/
def spIniX (K : PySem.W.Frag) : Sp := fun vs H Q _ => ∃ (a C fI : Addr) (v : V), vs = [.ref a, v] ∧ XCls K fI C ∧ H a = some (exo a C none) ∧
  ∀ dx, H dx = none → dx ≠ a → Q .non (upd (upd H dx (exd dx [("value", v)])) a (exo a C (some dx)))
/-- C(e): a new exception -/
def tMkX (C : Addr) (ta : TA) : TE := fun σ H Q => ta σ H fun vs H1 => ∃ v, vs = [v] ∧ ∀ a d, H1 a = none → H1 d = none → d ≠ a → Q (.ref a) (upd (upd H1 d (exd d [("value", v)])) a (exo a C (some d)))
/-- x.value of a held exception -/
def tXv (K : PySem.W.Frag) (n : Str) (te : TE) : TE := fun σ H Q => te σ H fun x H1 => ∃ (a C d fI : Addr) (v : V), x = .ref a ∧ n = "value" ∧ XCls K fI C ∧ XAt H1 a C d v ∧ Q v H1
/-- isinstance(x, c) of a held exception -/
def rIsX (K : PySem.W.Frag) : List V → Hp → VK → Prop := fun xs H Q => ∃ (a C d fI : Addr) (v c : V) (u : Value) (b : Bool), xs = [.ref a, c] ∧ ClsV c u ∧ XCls K fI C ∧ XAt H a C d v ∧ PySem.W.kitOne K (.ref C) u = some b ∧ Q (.bl b) H
section
variable {X : Cx}
theorem pe_mkX {x : Str} {C fI : Addr} {k : Nat} {fd : FuncData} {e : Expr} {es : List Expr} {ta : TA} {p pos : Pos} (T : XCls X.K fI C) (F1 : FnOk X.prog X.w X.K X.mg X.base CX0 k fI fd ["self", "value"] (spIniX X.K)) (hr : Room (k + 1) X.A) (hb : Binds X.K fd ["self", "value"] [])
    (hg : Gl X x) (hm : X.mg x = some (.ref C)) (ha : PA X (e :: es) ta) (hdb : (x == ("__debug__" : Str)) = false := by decide) (hs : starEach (e :: es) X.env = (false, eval e X.env) :: starEach es X.env := by rfl) (hpl : (backTo pos (starEach es X.env)).any (·.1) = false := by rfl) :
    PE X (.Call (.Name x p) (e :: es) [] pos) (tMkX C ta) := by
  refine ⟨fun pins s σ H Q I h => ?_⟩
  obtain ⟨nm, q, N, bs, bm, sn, sub, ab, col, dd, k0, k1, k2, k3, k5, hC, hbm⟩ := T.o.cls
  refine wpAny_Call_Name_kw (ld_glob I hg hm ?_ hdb)
  refine PySem.W.callWith_K (h₀ := X.base) I.ok.mod.kin T.o.kC (thn (ha.run pos pins s σ H _ I h) fun us s1 ⟨vs, H1, I1, r1, v, ev, q1⟩ => ⟨I1.kIn, ?_⟩) hs hpl
  subst ev
  show wpAny _ _ (call (.ref C) us) _ _ _
  obtain ⟨hp, g, dr, tk, os⟩ := s1
  have hsz : hp.objs.size ≤ hp.objs.size + 1 := Nat.le_succ _
  have hn : H1 (hp.objs.size + 1) = none := I1.hok.fresh hsz
  have keeps : ∀ b o, hp.get? b = some o → ((hp.push (PySem.W.kdv_tup us)).push (PySem.HandSPX.excO C hp.objs.size)).get? b = some o := fun b o e => Heap.get?_push_of_some _ (Heap.get?_push_of_some _ e)
  have made : ((hp.push (PySem.W.kdv_tup us)).push (PySem.HandSPX.excO C hp.objs.size)).get? (hp.objs.size + 1) = some (PySem.HandSPX.excO C hp.objs.size) := by heap_get
  have I2 : Inv X pins σ (upd H1 (hp.objs.size + 1) (exo (hp.objs.size + 1) C none)) ⟨(hp.push (PySem.W.kdv_tup us)).push (PySem.HandSPX.excO C hp.objs.size), g, dr, tk, os⟩ :=
    I1.laid (t' := tk) keeps hsz (exo_ok made)
  have r2 : Vals (V.ref (hp.objs.size + 1) :: [v]) (Value.ref (hp.objs.size + 1) :: us) := .cons rfl r1
  have hl : (Value.ref (hp.objs.size + 1) :: us).length = (["self", "value"] : List Str).length := by
    rw [← r2.length]; rfl
  have hus : us.length ≤ sizeLine := by
    rw [← Paired.length r1, sizeLine_eq]; show 1 ≤ 16777216; decide
  have hsp : spIniX X.K (V.ref (hp.objs.size + 1) :: [v]) (upd H1 (hp.objs.size + 1) (exo (hp.objs.size + 1) C none)) (fun v' H2 => v' = .non ∧ ∃ d, H1 d = none ∧ d ≠ hp.objs.size + 1 ∧ H2 = upd (upd H1 d (exd d [("value", v)])) (hp.objs.size + 1) (exo (hp.objs.size + 1) C (some d))) E0 := by
    refine ⟨_, C, fI, v, rfl, T, upd_same, fun dx n1 n2 => ⟨rfl, dx, ?_, n2, ?_⟩⟩
    · rw [upd_ne n2] at n1; exact n1
    · funext b
      by_cases hb : b = hp.objs.size + 1
      · rw [hb, upd_same, upd_same]
      · rw [upd_ne hb, upd_ne hb]
        by_cases hd : b = dx
        · rw [hd, upd_same, upd_same]
        · rw [upd_ne hd, upd_ne hd, upd_ne hb]
  refine wpAny_call (PySem.HandSPX.call_own F.excBase_ValueError (fun Y => PySem.HandSPX.refsVE_contains Y bm hbm) (I1.kIn _ _ hC) (PySem.W.looks_findIn I1.kIn T.ini) (fun self => PySem.W.bind_fn I1.kIn self T.tI) hus
    (codeAny_mono (F1.run _ X.stack _ _ ⟨Value.ref (hp.objs.size + 1) :: us, []⟩ (Value.ref (hp.objs.size + 1) :: us) _ _ E0 (hr.make C us []) (I2.env0.make C us []) (by have z := hb _ (Value.ref (hp.objs.size + 1) :: us) I2.kIn (by simpa using hl); simpa using z) r2 hsp) fun r s' hq' => ?_))
  cases r with
  | error er => exact hq'.elim
  | ok fl =>
    cases fl with
    | ret u =>
      obtain ⟨v', H2, os2, bare2, un2, hok2, rv, ev, d, nd, nda, rfl⟩ := hq'
      subst ev
      exact ⟨rv, .ref _, _, I2.call' (ch := []) os2 un2 hok2 bare2 (fun b z => absurd z (by simp)), rfl, q1 _ d hn nd nda⟩
    | next => exact False.elim hq'
    | brk => exact False.elim hq'
    | cont => exact False.elim hq'
theorem xinst {pins : List (Addr × Obj)} {σ : L2.St} {H : Hp} {s : Shared} {a C d : Addr} {v : V} (I : Inv X pins σ H s) (x : XAt H a C d v) :
    ∃ ox od mA, PySem.W.InstAt s.heap a ox C (some od) ∧ s.heap.Ns1 d mA ∧ (∀ f, RelO (List.lookup f [(("value" : Str), v)]) (mA f)) ∧ s.heap.get? d = some od := by
  obtain ⟨t1, e1⟩ := exo_at I.hok x.1
  obtain ⟨mA, hns, rel⟩ := exd_at I.hok x.2
  obtain ⟨od, es, ep, ho, rest⟩ := id hns
  exact ⟨_, od, mA, ⟨e1, rfl, rfl, ho⟩, hns, rel, ho⟩
theorem pe_xv {e : Expr} {te : TE} {pos : Pos} {n : Str} (he : PE X e te) (hb : attributeBase e n X.env (eval e X.env) = eval e X.env := by rfl) : PE X (.Attribute e n pos) (tXv X.K n te) := by
  refine ⟨fun pins s σ H Q I h => ?_⟩
  refine attr_of hb (thn (he.run pins s σ H _ I h) fun u s1 ⟨x, H1, I1, rx, a, C, d, fI, v, ex, en, T, xa, q⟩ => ?_)
  subst ex en
  obtain rfl : u = Value.ref a := rx
  obtain ⟨mA, hns, rel⟩ := exd_at I1.hok xa.2
  obtain ⟨t1, e1⟩ := exo_at I1.hok xa.1
  obtain ⟨od, ho, hl⟩ := lookIn_ns hns
  obtain ⟨u, hu, ru⟩ := RelO.some_of (v := v) (o := mA ("value" : Str)) (by have z := rel ("value" : Str); rwa [lookup_put, if_pos rfl] at z)
  have J : PySem.W.InstAt s1.heap a _ C (some od) := ⟨e1, rfl, rfl, ho⟩
  exact HandSPX.exc_get I1.kIn J T.x.ga T.x.gg T.x.exC (PySem.W.findObj_own T.x.hdC T.noV rfl (by rw [hl, hu])) (handed_of ru) ⟨v, H1, I1.tok _, ru, q⟩
theorem call_isX : CallR X (.builtin "isinstance") (rIsX X.K) := by
  intro pins s σ H xs us Q I r h
  obtain ⟨a, C, d, fI, v, c, u, b, rfl, hc, T, xa, e, q⟩ := h
  obtain ⟨u1, u2, rfl, r1, r2⟩ := vals2 r
  cases (show u1 = Value.ref a from r1)
  have e2 := hc.eq r2
  subst e2
  obtain ⟨ox, od, mA, J, _⟩ := xinst I xa
  exact PySem.W.kia_one (PySem.W.kitx_exc T.cl T.x.ga T.x.gg T.x.exC T.ha T.hn T.ht T.hm) I.kIn J e (fun z => nomatch z) fun tk => ⟨.bl b, H, I.tok tk, rfl, q⟩
end
end Hw

set_option Elab.async false
set_option linter.all false
set_option maxRecDepth 100000
set_option maxHeartbeats 4000000
namespace Hw
open PySem L2 PyProof.Rows
/-! written data, laid beside a place a -/
mutual
inductive Dx (a : Addr) (H : Hp) : V → PyData → Prop
  | flat {v : V} {d : PyData} : flatPD v = some d → Dx a H v d
  | lst {p : Addr} {xs : List V} {ds : List PyData} : H p = some (.lst xs) → p ≠ a → DxAll a H xs ds → Dx a H (.ref p) (.list ds)
  | tup {p : Addr} {xs : List V} {ds : List PyData} : H p = some (.tup xs) → p ≠ a → DxAll a H xs ds → Dx a H (.ref p) (.tuple ds)
  | dct {p : Addr} {kvs : List (Key × V)} {ds : List (PyData × PyData)} : H p = some (.dK kvs) → p ≠ a → (∀ q ∈ kvs, valV kvs q.1 = some q.2 ∧ flatB q.2 = true) → Paired (fun q e => e.1 = keyPD q.1 ∧ flatPD q.2 = some e.2) kvs ds → Dx a H (.ref p) (.dict ds)
inductive DxAll (a : Addr) (H : Hp) : List V → List PyData → Prop
  | nil : DxAll a H [] []
  | cons {v : V} {vs : List V} {d : PyData} {ds : List PyData} : Dx a H v d → DxAll a H vs ds → DxAll a H (v :: vs) (d :: ds)
end
section
variable {a : Addr} {H H' : Hp}
mutual
theorem Dx.keep (s : SameX a H H') : ∀ (v : V) (d : PyData), Dx a H v d → Dx a H' v d
  | _, .list ds, h => by
    cases h with
    | flat e => exact .flat e
    | lst h1 h2 h3 => exact .lst (s _ _ h2 h1) h2 (DxAll.keep s _ ds h3)
  | _, .tuple ds, h => by
    cases h with
    | flat e => exact .flat e
    | tup h1 h2 h3 => exact .tup (s _ _ h2 h1) h2 (DxAll.keep s _ ds h3)
  | _, .dict ds, h => by
    cases h with
    | flat e => exact .flat e
    | dct h1 h2 h3 h4 => exact .dct (s _ _ h2 h1) h2 h3 h4
  | _, .none, h => by cases h with | flat e => exact .flat e
  | _, .bool _, h => by cases h with | flat e => exact .flat e
  | _, .int _, h => by cases h with | flat e => exact .flat e
  | _, .str _, h => by cases h with | flat e => exact .flat e
theorem DxAll.keep (s : SameX a H H') : ∀ (vs : List V) (ds : List PyData), DxAll a H vs ds → DxAll a H' vs ds
  | _, [], h => by cases h; exact .nil
  | _, d :: ds, h => by
    cases h with
    | cons h1 h2 => exact .cons (Dx.keep s _ d h1) (DxAll.keep s _ ds h2)
end
theorem DxAll.length : ∀ {vs : List V} {ds : List PyData}, DxAll a H vs ds → vs.length = ds.length
  | _, _, .nil => rfl
  | _, _, .cons _ t => congrArg (· + 1) (DxAll.length t)
theorem DxAll.append : ∀ {vs ws : List V} {ds es : List PyData}, DxAll a H vs ds → DxAll a H ws es → DxAll a H (vs ++ ws) (ds ++ es)
  | _, _, _, _, .nil, t => t
  | _, _, _, _, .cons x y, t => .cons x (DxAll.append y t)
theorem DxAll.at : ∀ {vs : List V} {ds : List PyData} {i : Nat} {v : V}, DxAll a H vs ds → vs[i]? = some v → ∃ d, d ∈ ds ∧ Dx a H v d
  | _, _, _, _, .nil, e => by simp at e
  | _, _, 0, _, .cons x _, e => by
    simp at e; subst e
    exact ⟨_, List.mem_cons_self, x⟩
  | _, _, i + 1, v, .cons _ t, e => by
    obtain ⟨d, h1, h2⟩ := DxAll.at (i := i) t (by simpa using e)
    exact ⟨d, List.mem_cons_of_mem _ h1, h2⟩
theorem Dp_flat {K : PySem.W.Frag} {v : V} {d : PyData} (e : flatPD v = some d) : Dp K H v d := by
  cases v with
  | non => cases e; exact .non
  | bl b => cases e; exact .bl b
  | int i => cases e; exact .int i
  | str x => cases e; exact .str x
  | byt b => cases e
  | flt b => cases e
  | ref a => cases e
  | ty n => cases e
mutual
theorem Dx.dp (K : PySem.W.Frag) : ∀ (v : V) (d : PyData), d.hasDict = false → Dx a H v d → Dp K H v d
  | _, .list ds, n, h => by
    cases h with
    | flat e => exact Dp_flat e
    | lst h1 h2 h3 => exact .lst (sql_of h1) (DxAll.dp K _ ds (by simpa only [PyData.hasDict] using n) h3)
  | _, .tuple ds, n, h => by
    cases h with
    | flat e => exact Dp_flat e
    | tup h1 h2 h3 => exact .tup (sqt_of h1) (DxAll.dp K _ ds (by simpa only [PyData.hasDict] using n) h3)
  | _, .dict ds, n, h => by simp [PyData.hasDict] at n
  | _, .none, _, h => by cases h with | flat e => exact Dp_flat e
  | _, .bool _, _, h => by cases h with | flat e => exact Dp_flat e
  | _, .int _, _, h => by cases h with | flat e => exact Dp_flat e
  | _, .str _, _, h => by cases h with | flat e => exact Dp_flat e
theorem DxAll.dp (K : PySem.W.Frag) : ∀ (vs : List V) (ds : List PyData), PyData.hasDictAll ds = false → DxAll a H vs ds → DpAll K H vs ds
  | _, [], _, h => by cases h; exact .nil
  | _, d :: ds, n, h => by
    simp only [PyData.hasDictAll, Bool.or_eq_false_iff] at n
    cases h with
    | cons h1 h2 => exact .cons (Dx.dp K _ d n.1 h1) (DxAll.dp K _ ds n.2 h2)
end
end
/-! displays that lay data -/
def MkD (te : TE) (d : PyData) : Prop := ∀ (a : Addr) (σ : L2.St) (H : Hp) (Q : VK), H a ≠ none → (∀ v H', Same H H' → Dx a H' v d → Q v H') → te σ H Q
def MkA (ta : TA) (ds : List PyData) : Prop := ∀ (a : Addr) (σ : L2.St) (H : Hp) (Q : List V → Hp → Prop), H a ≠ none → (∀ vs H', Same H H' → DxAll a H' vs ds → Q vs H') → ta σ H Q
theorem same_some {a : Addr} {H H' : Hp} (s : Same H H') (h : H a ≠ none) : H' a ≠ none := by
  cases e : H a with
  | none => exact absurd e h
  | some o => rw [s _ _ e]; exact fun z => nomatch z
theorem mkA_nil : MkA tNil [] := fun _ _ H _ _ q => q [] H (Same.refl H) .nil
theorem mkA_cons {te : TE} {ta : TA} {d : PyData} {ds : List PyData} (h1 : MkD te d) (h2 : MkA ta ds) : MkA (tCons te ta) (d :: ds) := fun a σ H Q ha q =>
  h1 a σ H _ ha fun v H1 s1 x1 => h2 a σ H1 _ (same_some s1 ha) fun vs H2 s2 x2 => q (v :: vs) H2 (s1.trans s2) (.cons (Dx.keep (.of s2) _ _ x1) x2)
theorem mk_c {v : V} {d : PyData} (h : flatPD v = some d) : MkD (tC v) d := fun a σ H Q _ q => q v H (Same.refl H) (.flat h)
theorem mk_neg {i : Int} : MkD (tUn (rU fun i => .int (-i)) (tC (.int i))) (.int (-i)) := fun a σ H Q _ q => ⟨i, rfl, q _ H (Same.refl H) (.flat rfl)⟩
theorem mk_tup {ta : TA} {ds : List PyData} (h : MkA ta ds) (hl : ds.length ≤ 1000) : MkD (tTup ta) (.tuple ds) := fun a σ H Q ha q => h a σ H _ ha fun vs H1 s1 x1 =>
  ⟨Nat.le_of_lt (small1000 (by rw [x1.length]; exact hl)), fun p hp => q _ _ (s1.trans (same_upd hp)) (.tup upd_same (fun e => same_some s1 ha (e ▸ hp)) (DxAll.keep (.of (same_upd hp)) _ _ x1))⟩
theorem mk_lst {ta : TA} {ds : List PyData} (h : MkA ta ds) (hl : ds.length ≤ 1000) : MkD (tLst ta) (.list ds) := fun a σ H Q ha q => h a σ H _ ha fun vs H1 s1 x1 =>
  ⟨Nat.le_of_lt (small1000 (by rw [x1.length]; exact hl)), fun p hp => q _ _ (s1.trans (same_upd hp)) (.lst upd_same (fun e => same_some s1 ha (e ▸ hp)) (DxAll.keep (.of (same_upd hp)) _ _ x1))⟩
theorem mk_dnew : MkD tDNewK (.dict []) := fun a σ H Q ha q p hp => q _ _ (same_upd hp) (.dct upd_same (fun e => ha (e ▸ hp)) (fun _ z => nomatch z) .nil)
theorem mk_dict1 {k : Str} {i : Int} : MkD (tDisp [(tC (.str k), tC (.int i))]) (.dict [(.str k, .int i)]) := fun a σ H Q ha q p hp => by
  refine ⟨upd_same, [(Sum.inr k, .int i)], rfl, by show 1 ≤ 15; decide, ?_⟩
  refine q _ _ (fun b o e => ?_) (.dct upd_same (fun e => ha (e ▸ hp)) (kvs := [(Sum.inr k, .int i)]) ?_ (.cons ⟨rfl, rfl⟩ .nil))
  · have hb := ne_of_none e hp
    rw [upd_ne hb, upd_ne hb]; exact e
  · intro z hz
    rcases List.mem_cons.mp hz with rfl | hz
    · exact ⟨valV_pos (p := ((Sum.inr k : Key), V.int i)) (r := []) rfl, rfl⟩
    · cases hz
/-- what is shown of such data, and is equal to itself -/
def fineD (d : PyData) : Bool := d.showable && (decide (d.depth ≤ 60) && (decide (d.shown.length ≤ 1000) && (match d with | .dict _ => true | d => !d.hasDict && (SeqAt.shaped d && PyData.eqv d d))))
section
variable {X : Cx}
def rNeO (K : PySem.W.Frag) : R2 := fun x y H Q => ∃ (a : Addr) (d : PyData), y = x ∧ Dx a H x d ∧ fineD d = true ∧ Q (.bl false) H
theorem op_neO (hu : X.A.units + 64 < cLine) : OpR X (compareOp .NotEq) (rNeO X.K) := by
  intro pins s σ H x y v u Q I rx ry h
  obtain ⟨a, d, rfl, hd, hf, q⟩ := h
  unfold fineD at hf
  simp only [Bool.and_eq_true] at hf
  obtain ⟨_, _, _, hf⟩ := hf
  by_cases hdict : ∃ ds, d = .dict ds
  · obtain ⟨ds, rfl⟩ := hdict
    cases hd with
    | flat e => cases y <;> cases e
    | dct h1 h2 h3 h4 => exact op_ne_dictA (by omega) pins s σ H _ _ v u Q I rx ry ⟨_, _, _, _, rfl, rfl, h1, h1, rfl, h3, q⟩
  · have hf' : (!d.hasDict && (SeqAt.shaped d && PyData.eqv d d)) = true := by
      revert hf
      cases d with
      | dict ds => exact absurd ⟨ds, rfl⟩ hdict
      | _ => exact fun z => z
    simp only [Bool.and_eq_true, Bool.not_eq_true'] at hf'
    have z := Dx.dp X.K _ d hf'.1 hd
    exact op_neD hu pins s σ H _ _ v u Q I rx ry ⟨d, d, z, z, hf'.2.1, hf'.2.1, by rw [hf'.2.2]; exact q⟩
def rReprO : List V → Hp → VK → Prop := fun xs H Q => ∃ (x : V) (a : Addr) (d : PyData), xs = [x] ∧ Dx a H x d ∧ fineD d = true ∧ Q (.str d.shown) H
theorem call_reprO (hg : X.A.guards = some []) (hu : X.A.units + 100 < cLine) : CallR X (.builtin "repr") rReprO := by
  intro pins s σ H xs us Q I r h
  obtain ⟨x, a, d, rfl, hd, hf, q⟩ := h
  unfold fineD at hf
  simp only [Bool.and_eq_true, decide_eq_true_eq] at hf
  obtain ⟨h1, h2, h3, hf⟩ := hf
  refine call_repr hg hu pins s σ H _ us Q I r ⟨x, d, rfl, ?_, h1, h2, Nat.le_of_lt (small1000 h3), q⟩
  by_cases hdict : ∃ ds, d = .dict ds
  · obtain ⟨ds, rfl⟩ := hdict
    cases hd with
    | flat e => cases x <;> cases e
    | dct k1 k2 k3 k4 => exact .inr ⟨_, _, ds, rfl, k1, rfl, k4⟩
  · have hf' : (!d.hasDict && (SeqAt.shaped d && PyData.eqv d d)) = true := by
      revert hf
      cases d with
      | dict ds => exact absurd ⟨ds, rfl⟩ hdict
      | _ => exact fun z => z
    simp only [Bool.and_eq_true, Bool.not_eq_true'] at hf'
    exact .inl (Dx.dp X.K _ d hf'.1 hd)
/-- count(True) of bools -/
def isT : Value → Bool
  | .bool b => b
  | _ => false
def rCntT (K : PySem.W.Frag) : V → List V → Hp → VK → Prop := fun x xs H Q => ∃ (p : Addr) (bs : List Bool), x = .ref p ∧ xs = [.bl true] ∧ SqL K H p (bs.map V.bl) ∧ Q (.int (bs.count true : Nat)) H
theorem cnt_isT : ∀ {bs : List Bool} {us : List Value}, Vals (bs.map V.bl) us → us.countP isT = bs.count true
  | [], _, r => by cases r; rfl
  | b :: bs, _, r => by
    cases r with
    | cons r1 r2 =>
      have ih := cnt_isT r2
      rename_i u us'
      obtain rfl : u = Value.bool b := r1
      rw [List.countP_cons, ih, List.count_cons]
      cases b <;> rfl
theorem mem_vals : ∀ {bs : List Bool} {us : List Value}, Vals (bs.map V.bl) us → ∀ y ∈ us, ∃ b, y = Value.bool b
  | [], _, r, y, hy => by cases r; cases hy
  | b :: bs, _, r, y, hy => by
    cases r with
    | cons r1 r2 =>
      rcases List.mem_cons.mp hy with rfl | hy
      · exact ⟨b, r1⟩
      · exact mem_vals r2 y hy
theorem mt_cntT : MtR X "list.count" (rCntT X.K) := by
  intro pins s σ H x xs v us Q I rx rxs h
  obtain ⟨p, bs, rfl, rfl, hs, q⟩ := h
  cases rx
  obtain ⟨u, rfl, ru⟩ := rxs.one
  obtain rfl : u = Value.bool true := ru
  obtain ⟨its, rv, ⟨⟨cls, dd, data, sl⟩, n, ho, hc, hdn, hd⟩, hlen⟩ := I.list hs
  simp only at hc hd
  subst hc hd
  refine call_meets PySem.F.slot_list_count ⟨_, ho, rfl⟩ PySem.F.entry_list_count (PySem.F.args_list_count_2 _ _)
    (SeqAt.list_countAt p its.toArray n dd sl (.bool true) isT) ⟨ho, fun y hy => ?_, ?_⟩
  · obtain ⟨b, rfl⟩ := mem_vals rv y (by simpa using hy)
    have z := eqAt_V (A := X.A.in1) (s := s) (y := .bl b) (x := .bl true) (u := .bool b) (v := .bool true) rfl rfl rfl rfl
    have e : eqV (.bl b) (.bl true) = isT (.bool b) := by cases b <;> rfl
    rw [e] at z
    exact z
  · refine ⟨.int (bs.count true : Nat), H, I.tok _, ⟨s.toks, ?_⟩, q⟩
    have ec : its.toArray.toList.countP isT = bs.count true := cnt_isT rv
    rw [ec]
end
end Hw

set_option Elab.async false
set_option linter.all false
set_option maxRecDepth 100000
set_option maxHeartbeats 4000000
namespace Hw
open PySem L2 PyProof.Rows
section
variable {t u : TS} {te ta tb : TE} {g : TG} {D : Ends} {σ : L2.St} {H : Hp} {Q : VK} {tl tr : TA} {r : R2} {QA : List V → Hp → Prop} {sp : Sp} {dvs : List V} {E : XK}
theorem r_seq (h : t { D with nx := u D } σ H) : tSeq t u D σ H := h
theorem r_asg (h : te σ H fun x H1 => g x σ H1 D.nx) : tAsg te g D σ H := h
theorem r_ret (h : te σ H D.rt) : tRet te D σ H := h
theorem r_cons (h : te σ H fun x H1 => tr σ H1 fun xs H2 => QA (x :: xs) H2) : tCons te tr σ H QA := h
theorem r_op (h : ta σ H fun x H1 => tb σ H1 fun y H2 => r x y H2 Q) : tOp r ta tb σ H Q := h
theorem r_call (h : tl σ H fun vs H1 => sp (vs ++ dvs) H1 Q E) : tCall sp dvs E tl σ H Q := h
theorem r_var {i : Nat} {v : V} (e : σ[i]? = some (some v)) (h : Q v H) : tVar i σ H Q := ⟨v, e, h⟩
end
theorem lst_use {ta : TA} {ds : List PyData} {a : Addr} {σ : L2.St} {H : Hp} {Q : VK} (ha : H a ≠ none) (q : ∀ p xs H', Same H H' → H' p = some (.lst xs) → p ≠ a → DxAll a H' xs ds → Q (.ref p) H') (m : MkA ta ds) (hl : ds.length ≤ 1000) : tLst ta σ H Q :=
  mk_lst m hl a σ H Q ha fun v H' s x => by
    cases x with
    | flat e => cases v <;> cases e
    | lst h1 n1 x1 => exact q _ _ H' s h1 n1 x1
section
variable {t u : TS} {te to : TE} {D : Ends} {σ : L2.St} {H : Hp} {i : Nat} {c : TT} {ta : TA} {K : PySem.W.Frag} {T : String} {r : V → List V → Hp → VK → Prop}
theorem rs_set (h : te σ H fun x H1 => u D (σ.set i (some x)) H1) : tSeq (tAsg te (gName i)) u D σ H := h
theorem rs_bm (h : to σ H fun x H1 => tyV K T x H1 ∧ ta σ H1 fun xs H2 => r x xs H2 fun _ H3 => u D σ H3) : tSeq (tDrop (tBM K T r to ta)) u D σ H := h
theorem rs_ifR (h : c σ H fun b H1 => if b = true then te σ H1 D.rt else u D σ H1) : tSeq (tIfS c (tRet te) tNext) u D σ H := h
theorem r1_ifR (h : c σ H fun b H1 => if b = true then te σ H1 D.rt else D.nx σ H1) : tIfS c (tRet te) tNext D σ H := h
end
/-! tests that come out false, new objects apart -/
def AnsF (t : TT) (σ : L2.St) (H : Hp) : Prop := ∀ Q : Bool → Hp → Prop, (∀ H', Same H H' → Q false H') → t σ H Q
section
variable {t u : TT} {σ : L2.St} {H : Hp} {te : TE} {us : TS} {D : Ends}
theorem ansF_or (h1 : AnsF t σ H) (h2 : ∀ H', Same H H' → AnsF u σ H') : AnsF (tOr t u) σ H := fun Q q =>
  h1 _ fun H1 s1 => by
    show if false = true then Q true H1 else u σ H1 Q
    rw [if_neg Bool.false_ne_true]
    exact h2 H1 s1 Q fun H2 s2 => q H2 (s1.trans s2)
theorem rs_skip (h1 : AnsF t σ H) (h : ∀ H', Same H H' → us D σ H') : tSeq (tIfS t (tRet te) tNext) us D σ H := h1 _ fun H1 s1 => by
  show if false = true then _ else _
  rw [if_neg Bool.false_ne_true]
  exact h H1 s1
theorem r1_skip (h1 : AnsF t σ H) (h : ∀ H', Same H H' → D.nx σ H') : tIfS t (tRet te) tNext D σ H := h1 _ fun H1 s1 => by
  show if false = true then _ else _
  rw [if_neg Bool.false_ne_true]
  exact h H1 s1
end
section
variable {u : TS} {D : Ends} {σ : L2.St} {H : Hp} {i j : Nat} {ta : TA} {v : V} {Q : L2.St → Hp → Prop}
theorem rs_par (h : ta σ H fun vs H1 => ∃ v w, vs = [v, w] ∧ u D ((σ.set i (some v)).set j (some w)) H1) : tSeq (tPar i j ta) u D σ H := h
theorem r_gname (h : Q (σ.set i (some v)) H) : gName i v σ H Q := h
end
theorem rs_enum {K : PySem.W.Frag} {u tb : TS} {g : TG} {D : Ends} {σ : L2.St} {H : Hp} {i : Nat} {p : Addr} {xs : List V} (e : σ[i]? = some (some (.ref p))) (hs : SqL K H p xs) (Pv : Nat → L2.St → Hp → Prop) (h0 : Pv 0 σ H)
    (hG : ∀ j σ H, j ≤ xs.length → Pv j σ H → SqL K H p xs)
    (turn : ∀ j x σ H T, j < xs.length → Pv j σ H → H T = none → xs[j]? = some x → g (.ref T) σ (upd H T (.tup [.int (j : Int), x])) fun σ2 H2 => tb { D with nx := Pv (j + 1), ct := Pv (j + 1), bk := u D } σ2 H2)
    (done : ∀ σ H, Pv xs.length σ H → u D σ H) : tSeq (tFor (iEnum K (tCons (tVar i) tNil)) g tb) u D σ H :=
  ⟨.ref p, e, p, xs, rfl, hs, for_it walk_enum Pv h0 hG (fun j x σ H H' hj hp ⟨T, xa, ya, ex, nT, eH, e1, e2⟩ => by
    subst ex eH
    obtain rfl : V.int (j : Int) = xa := Option.some.inj e1
    exact turn j ya σ H T hj hp nT e2) done⟩
theorem paired_at {α β : Type} {F : α → β → Prop} : ∀ {xs : List α} {ys : List β} {i : Nat} {y : β}, Paired F xs ys → ys[i]? = some y → ∃ x, xs[i]? = some x ∧ F x y
  | _, _, _, _, .nil, e => by simp at e
  | _, _, 0, _, .cons a _, e => by simp at e; subst e; exact ⟨_, rfl, a⟩
  | _, _, i + 1, y, .cons _ t, e => by
    obtain ⟨x, h1, h2⟩ := paired_at (i := i) t (by simpa using e)
    exact ⟨x, by simpa using h1, h2⟩
theorem r_yes {σ : L2.St} {H : Hp} {te : TE} {Q1 : VK} {B : Prop} (h : te σ H Q1) : tYes σ H fun b H3 => if b = true then te σ H3 Q1 else B := by
  show if true = true then te σ H Q1 else B
  rw [if_pos rfl]
  exact h
end Hw

set_option Elab.async false
set_option linter.all false
set_option maxRecDepth 100000
set_option maxHeartbeats 4000000
namespace HN
open PySem PySem.Spec PyProof.Rows PySem.SeqAt
section
variable {prog : Program} {w : World} {A : Around} {E : Value → Shared → Prop} {s : Shared} {K : PySem.W.Frag} {x C f : Addr} {ox : Obj} {od : Option Obj} {b tb : Value}
/-- how an answer is turned about -/
def NotBack (Q : Value → Shared → Prop) (v : Value) (s' : Shared) : Prop := ∃ r, v = .bool r ∧ Q (.bool (!r)) s'
theorem ne_entry {Q : Fin → Shared → Prop} (hu : A.units < cLine) (X : K.In s.heap) (I : PySem.W.InstAt s.heap x ox C od) (hs : PySem.W.findIn K (.ref C) "__eq__" = some (some (.ref f))) (hf : PySem.W.isFn K (.ref f) = true)
    (h : wpAny (model prog w) A (call (.ref f) [.ref x, b]) (NotBack fun v s' => Q (.done (.ret v)) s') E s) : wpAny (model prog w) A (Builtin.«object.__ne__» ⟨[.ref x, b], []⟩) Q E s := by
  have one : wpAny (model prog w) A (callSpecialIfBound? (.ref x) "__eq__" [b]) (fun r s' => ∃ q, r = some (.bool q) ∧ Q (.done (.ret (.bool (!q)))) s') E s :=
    PySem.W.ifBound_K X I hs hf (wpAny_mono h (fun v s' z => by
      obtain ⟨r, e, q⟩ := z
      exact ⟨r, by rw [e], q⟩) fun _ _ e => e)
  unfold Builtin.«object.__ne__»
  repeat (first
    | with_reducible refine wpAny_cRoomFor hu ?_
    | (refine wpAny_bind (m := callSpecialIfBound? (.ref x) (Str.ofString "__eq__") [b]) (wpAny_mono one (fun r s' z => by
        obtain ⟨q, e, hq⟩ := z
        subst e
        repeat (first | exact hq | exact wpAny_pure hq | exact wpAny_truthy_bool hq | (refine wpAny_bind (m := truthy (.bool _)) (wpAny_truthy_bool ?_)) | wp_step)) fun _ _ e => e))
    | wp_step)
theorem ifBound_objNe {M : Model} {args : List Value} {Q : Option Value → Shared → Prop} (X : K.In s.heap) (I : PySem.W.InstAt s.heap x ox C od) (hs : PySem.W.findIn K (.ref C) "__ne__" = some (some (.builtin "object.__ne__")))
    (h : wpAny M A (call (.builtin "object.__ne__") (.ref x :: args)) (fun v => Q (some v)) E s) : wpAny M A (callSpecialIfBound? (.ref x) "__ne__" args) Q E s := by
  simp only [callSpecialIfBound?, bindSpecialIfBound?]
  refine wpAny_holding (wpAny_bind (wpAny_bind (wpAny_bind (I.type.here ((PySem.W.looks_findIn X hs).here ?_)))))
  refine wpAny_bind (wpAny_askSetting (wpAny_ite ?_))
  have last : wpAny M A (call (.builtin "object.__ne__") ([.ref x] ++ args) >>= fun v => pure (some v)) Q E s := wpAny_bind (wpAny_mono h (fun v s' z => wpAny_pure z) fun _ _ z => z)
  have nb := F.cmp_object.ne.bind
  split
  · exact wpAny_bind (wpAny_of_eq (nb _) (wpAny_pure (by exact last)))
  · exact wpAny_tryCatch (wpAny_bind (wpAny_of_eq (nb _) (wpAny_pure (by exact last))))
theorem rich_ne {Q : Value → Shared → Prop} (hu : A.units + 1 < cLine) (X : K.In s.heap) (I : PySem.W.InstAt s.heap x ox C od) (hb : PySem.W.Looks (model prog w) s.heap (typeOf b) tb) (hn : PySem.W.notFirst K C tb = true)
    (hm : PySem.W.mroIn K C (.type "object") = some true) (hs : PySem.W.findIn K (.ref C) "__eq__" = some (some (.ref f))) (hf : PySem.W.isFn K (.ref f) = true) (hne : PySem.W.findIn K (.ref C) "__ne__" = some (some (.builtin "object.__ne__")))
    (h : wpAny (model prog w) A.in1 (call (.ref f) [.ref x, b]) (NotBack Q) E s) : wpAny (model prog w) A (richCompare .NotEq (.ref x) b) Q E s := by
  have one : wpAny (model prog w) A (tryCompare (.ref x) "__ne__" b) (fun r s' => ∃ v, r = some v ∧ Q v s') E s := by
    unfold tryCompare
    refine wpAny_bind (ifBound_objNe X I hne (wpAny_call (codeAny_call_builtin F.cmp_object.ne.plain F.cmpEntry_ne (PySem.W.check_slot F.cmpKind_ne F.cmpSplit_ne (I.type.andThen (PySem.W.looks_mroIn X hm)) (F.cmpArgs_ne _ _) (ne_entry (A := A.in1) hu X I hs hf (wpAny_mono h (fun v s' z => ?_) fun _ _ e => e))))))
    obtain ⟨r, e, q⟩ := z
    refine ⟨r, e, ?_⟩
    exact wpAny_pure ⟨_, rfl, q⟩
  simp only [richCompare, cmpInfo_NotEq, oneThing_ref]
  refine wpAny_holding (wpAny_bind (wpAny_cRoomFor (Nat.lt_of_succ_lt hu) ?_))
  refine wpAny_bind (I.type.here (wpAny_bind (hb.here ?_)))
  split
  · rename_i q
    have e : PySem.W.subIn K tb (.ref C) = some false := by
      have hn' := hn
      unfold PySem.W.notFirst at hn'
      rcases Bool.or_eq_true_iff.mp hn' with e | e
      · rw [beq_iff_eq.mp e] at q; simp at q
      · exact beq_iff_eq.mp e
    refine wpAny_bind ((PySem.W.looks_subIn X e).here ?_)
    simp only [Bool.false_eq_true, if_false]
    refine wpAny_bind (wpAny_mono one (fun r s' z => ?_) fun _ _ z => z)
    obtain ⟨v, e, hq⟩ := z
    subst e
    exact wpAny_pure hq
  · refine wpAny_bind (wpAny_pure ?_)
    simp only [Bool.false_eq_true, if_false]
    refine wpAny_bind (wpAny_mono one (fun r s' z => ?_) fun _ _ z => z)
    obtain ⟨v, e, hq⟩ := z
    subst e
    exact wpAny_pure hq
end
end HN
namespace Hw
open PySem L2 PyProof.Rows
/-- x == y (or !=) where x has a class of the text with its own == -/
def rEqU (K : PySem.W.Frag) (C : Addr) (sp : Sp) (E : XK) (neg : Bool) : R2 := fun x y H Q => ∃ a dx fs t, x = .ref a ∧ H a = some (.ins C dx fs) ∧ TyX K H y t ∧ PySem.W.notFirst K C t = true ∧ sp [.ref a, y] H (fun v H' => ∃ b, v = .bl b ∧ Q (.bl (b != neg)) H') E
/-- the class's own comparison -/
structure EqM (K : PySem.W.Frag) (C f : Addr) : Prop where
  eq : PySem.W.findIn K (.ref C) "__eq__" = some (some (.ref f))
  fn : PySem.W.isFn K (.ref f) = true
  ne : PySem.W.findIn K (.ref C) "__ne__" = some (some (.builtin "object.__ne__"))
  obj : PySem.W.mroIn K C (.type "object") = some true
section
variable {X : Cx} {n : Nat} {CX : CXT} {C f : Addr} {fd : FuncData} {ps : List Str} {sp : Sp} {E : XK}
theorem own_run (F : FnOk X.prog X.w X.K X.mg X.base CX n f fd ps sp) (hb : Binds X.K fd ps []) (hx : Passes CX X E) {A : Around} (hr : Room n A) (hfr : A.frames = X.A.frames) {pins : List (Addr × Obj)} {σ : L2.St} {H : Hp} {s : Shared} {vs : List V} {us : List Value} (I : Inv X pins σ H s) (r2 : Vals vs us) {R : VK}
    (hsp : sp vs H R E) {QQ : Value → Shared → Prop} (hq : ∀ z u H' s', Inv X pins σ H' s' → RelV z u → R z H' → QQ u s') : wpAny (model X.prog X.w) A (call (.ref f) us) QQ X.xe s := by
  have e0 : Env0 X.prog X.w X.K X.mg X.base A X.stack s H := by
    have e := I.env0
    exact ⟨by rw [hfr]; exact e.frames, e.mod, e.bs, e.bsz, e.funs, e.frf, e.hok, e.bare⟩
  have hl := F.len _ _ _ _ hsp
  have hl2 : us.length = vs.length := (Vals.length r2).symm
  refine wpAny_call (codeAny_mono (F.run A X.stack s H ⟨us, []⟩ us vs _ E hr e0 (by
    have := hb s us I.kIn (by simpa [hl2] using hl)
    simpa using this) r2 hsp) fun r s' z => ?_)
  cases r with
  | error e => exact hx pins σ H s e s' I z
  | ok fl =>
    cases fl with
    | ret u =>
      obtain ⟨z, H', I', rz, q⟩ := I.after z
      exact hq z u H' s' I' rz q
    | next => exact False.elim z
    | brk => exact False.elim z
    | cont => exact False.elim z
theorem eqU_run (F : FnOk X.prog X.w X.K X.mg X.base CX n f fd ps sp) (hb : Binds X.K fd ps []) (hx : Passes CX X E) {A : Around} (hr : Room n A) (hfr : A.frames = X.A.frames) {pins : List (Addr × Obj)} {σ : L2.St} {H : Hp} {s : Shared} {a : Addr} {y : V} {v : Value} (I : Inv X pins σ H s) (ry : RelV y v) {R : Bool → Hp → Prop}
    (hsp : sp [.ref a, y] H (fun z H' => ∃ b, z = .bl b ∧ R b H') E) {QQ : Value → Shared → Prop} (hq : ∀ b H' s', Inv X pins σ H' s' → R b H' → QQ (.bool b) s') : wpAny (model X.prog X.w) A (call (.ref f) [.ref a, v]) QQ X.xe s :=
  own_run F hb hx hr hfr I (.cons (show RelV (V.ref a) (Value.ref a) from rfl) (.cons ry .nil)) hsp fun z u H' s' I' rz ⟨b, ez, q⟩ => by
    subst ez
    cases rz
    exact hq b H' s' I' q
/-- len of an object with its own __len__ -/
theorem call_lenU (F : FnOk X.prog X.w X.K X.mg X.base CX n f fd ps sp) (hb : Binds X.K fd ps []) (hx : Passes CX X E) (hs : PySem.W.findIn X.K (.ref C) "__len__" = some (some (.ref f))) (hf : PySem.W.isFn X.K (.ref f) = true) (hr : Room (n + 1) X.A) :
    CallR X (.builtin "len") (fun xs H Q => ∃ a dx fs, xs = [V.ref a] ∧ H a = some (.ins C dx fs) ∧ sp [.ref a] H (fun v H' => ∃ k : Nat, v = .int k ∧ k ≤ 1000000 ∧ Q (.int k) H') E) := by
  intro pins s σ H xs us Q I r h
  obtain ⟨a, dx, fs, rfl, ha, hsp⟩ := h
  obtain ⟨u, rfl, ru⟩ := vals1 r
  cases ru
  obtain ⟨m1, J, _⟩ := ins_get I.hok ha
  obtain ⟨od, J, _⟩ := J.look
  obtain ⟨m, hF⟩ := I.fr
  refine PySem.W.len_K hF I.ok.mod.kin J hs hf ?_
  refine own_run F hb hx hr.in1 rfl I (.cons (show RelV (V.ref a) (Value.ref a) from rfl) .nil) hsp fun z u H' s' I' rz q => ?_
  obtain ⟨k, ez, hk, q⟩ := q
  subst ez
  obtain ⟨t, rfl⟩ := rz
  exact ⟨⟨by omega, by have : (2 : Int) ^ 63 = 9223372036854775808 := by decide
                       omega⟩, .int k, H', I'.tok _, ⟨_, rfl⟩, q⟩
theorem op_eqU (F : FnOk X.prog X.w X.K X.mg X.base CX n f fd ps sp) (hb : Binds X.K fd ps []) (hx : Passes CX X E) (M : EqM X.K C f) (hr : Room n X.A) : OpR X (compareOp .Eq) (rEqU X.K C sp E false) := by
  intro pins s σ H x y v u Q I rx ry hq
  obtain ⟨a, dx, fs, t, rfl, ha, ty, nf, hsp⟩ := hq
  cases rx
  obtain ⟨m1, J, _⟩ := ins_get I.hok ha
  obtain ⟨od, J, _⟩ := J.look
  obtain ⟨m, hF⟩ := I.fr
  obtain ⟨Pk, Z, pk, _⟩ := kit_of I ry ty
  refine PySem.W.cmp_K (op := .Eq) (tb := t) hr.units0 hF I.ok.mod.kin J (Z.ty _ _ I.kIn pk) nf M.eq M.fn ?_
  exact eqU_run F hb hx hr rfl I ry hsp fun b H' s' I' q => ⟨.bl b, H', I', rfl, by simpa using q⟩
theorem op_neU (F : FnOk X.prog X.w X.K X.mg X.base CX n f fd ps sp) (hb : Binds X.K fd ps []) (hx : Passes CX X E) (M : EqM X.K C f) (hr : Room (n + 1) X.A) : OpR X (compareOp .NotEq) (rEqU X.K C sp E true) := by
  intro pins s σ H x y v u Q I rx ry hq
  obtain ⟨a, dx, fs, t, rfl, ha, ty, nf, hsp⟩ := hq
  cases rx
  obtain ⟨m1, J, _⟩ := ins_get I.hok ha
  obtain ⟨od, J, _⟩ := J.look
  obtain ⟨Pk, Z, pk, _⟩ := kit_of I ry ty
  refine HN.rich_ne (tb := t) (by have := hr.units; omega) I.kIn J (Z.ty _ _ I.kIn pk) nf M.obj M.eq M.fn M.ne ?_
  exact eqU_run F hb hx hr.in1 rfl I ry hsp fun b H' s' I' q => ⟨b, rfl, ⟨.bl (!b), H', I', rfl, by cases b <;> simpa using q⟩⟩
end
end Hw

set_option Elab.async false
set_option linter.all false
set_option maxRecDepth 100000
set_option maxHeartbeats 4000000
namespace Hw
open PySem L2 PyProof.Rows
/-! a built-in class called with keywords -/
theorem callWith_tyK {M : Model} {A : Around} {E : Value → Shared → Prop} {s : Shared} {pos : Pos} {T : String} {first : List Value} {args : List (Bool × Sem Value)} {keywords : List (Option Str × Sem Value)} {Q : Value → Shared → Prop}
    (hp : args.any (·.1) = false) (hk : keywords.any (·.1.isNone) = false) (h : wpAny M A (evalArgs (.type T) true args keywords) (fun a s1 => wpAny M A (call (.type T) (first ++ a.pos) a.kw) Q E s1) E s) :
    wpAny M A (callWith pos (.type T) first args keywords) Q E s := by
  unfold callWith
  refine wpAny_bind (wpAny_holding (wpAny_mono h (fun a s1 h1 => wpAny_bind (wpAny_standAt ?_)) fun _ _ z => z))
  simp only [hp, hk, Bool.or_false]
  refine wpAny_bind (wpAny_pure ?_)
  exact wpAny_bind (wpAny_mono h1 (fun r s2 hr => wpAny_bind (wpAny_holding (wpAny_point (wpAny_pure hr)))) fun _ _ z => z)
/-! enumerate(list, start=k) -/
def IteK (K : PySem.W.Frag) (a : Addr) (k0 : Int) : It :=
  ⟨fun i H => ∃ (xs : List V) (x : V), SqL K H a xs ∧ xs[i]? = some x, fun i H v H' => ∃ T x, v = .ref T ∧ H T = none ∧ H' = upd H T (.tup [.int (k0 + (i : Nat)), x]) ∧ ∀ xs, SqL K H a xs → xs[i]? = some x, fun i H => ∃ xs : List V, SqL K H a xs ∧ xs.length = i⟩
theorem turn_enumK {P : Program} {w : World} {K : PySem.W.Frag} {elts : List Expr} {kk : Nat} {tpos : Pos} (k0 : Int) (a e it : Addr) :
    Turn P w K (.Tuple elts kk tpos) (IteK K a k0) [e, it] e (fun i h => (∃ old, IsEnum h e it (k0 + (i : Nat)) old) ∧ h.IsListIter it a i ∧ e ≠ it) where
  mem := by simp
  obj := fun i h st b hb => by
    obtain ⟨⟨old, he⟩, ⟨o, ho, hc, hd⟩, _⟩ := st
    rcases (show b = e ∨ b = it by simpa using hb) with z | z
    · subst z; exact ⟨_, he, fun v q => nomatch q⟩
    · subst z; exact ⟨o, ho, fun v q => by rw [hd] at q; cases q⟩
  keep := fun i h h' st k => by
    obtain ⟨⟨old, he⟩, hi, hne⟩ := st
    exact ⟨⟨old, k e (by simp) _ he⟩, hi.at fun o q => k it (by simp) o q, hne⟩
  item := by
    intro X hP hw hK hc i pins s σ H E I hf st hg
    subst hP hw hK
    obtain ⟨⟨old, he⟩, hit, hne⟩ := st
    obtain ⟨xs, x, hq, hx⟩ := hg
    obtain ⟨its, rv, p, hz⟩ := I.list hq
    obtain ⟨u, hu, ru⟩ := rv.get hx
    have hel : e < s.heap.objs.size := Heap.lt_size he
    have hil : it < s.heap.objs.size := by
      obtain ⟨_, q, _⟩ := hit
      exact Heap.lt_size q
    have hae : a ≠ e := fun z => by
      obtain ⟨o1, q1, q2, _⟩ := p.isList
      subst z
      rw [show s.heap.get? a = _ from he] at q1
      obtain rfl := Option.some.inj q1
      injection q2 with q2
      exact absurd q2 (by decide)
    have hai : a ≠ it := fun z => by
      obtain ⟨o1, q1, q2, _⟩ := p.isList
      obtain ⟨o2, q3, q4, _⟩ := hit
      subst z
      rw [q3] at q1
      obtain rfl := Option.some.inj q1
      rw [q4] at q2
      injection q2 with q2
      exact absurd q2 (by decide)
    have hlt : i < its.toArray.size := by
      have := (List.getElem?_eq_some_iff.mp hu).1
      simpa using this
    refine wpAny_pyNext_enum_itemC (Draws.list (A := X.A.in1) (I.ok.hd hc) it a hai its.toArray) he ⟨hit, p.isList⟩ hlt hne (by simp [Ne.symm hae, hne]) fun x' h' tk hx' ho hst' hT hsz hk => ⟨_, rfl, wpAny_letOwnedTupleGo_enum (s := { s with heap := h', toks := tk + 1 }) ho fun h2 he' sb => ?_⟩
    obtain ⟨hit', hl'⟩ := hst'
    obtain rfl : u = x' := by
      rw [show its.toArray[i]? = its[i]? by simp] at hx'
      rw [hu] at hx'
      exact Option.some.inj hx'
    have hT2 : h2.get? s.heap.objs.size = some { cls := .type "tuple", data := .seq #[.int (k0 + (i : Nat)) tk, u] } := (sb.2 _ (Nat.ne_of_gt hel)).trans hT
    have new : ObjOk X.prog X.w (upd H s.heap.objs.size (.tup [.int (k0 + (i : Nat)), x])) h2 s.heap.objs.size (.tup [.int (k0 + (i : Nat)), x]) :=
      ⟨by show 2 ≤ sizeLine; decide, [.int (k0 + (i : Nat)) tk, u], .cons ⟨_, rfl⟩ (.cons ru .nil), ⟨_, hT2, rfl, _, rfl⟩⟩
    have I1 : Inv X pins σ (upd H s.heap.objs.size (.tup [.int (k0 + (i : Nat)), x])) { s with heap := h2, toks := tk + 1 } :=
      I.turnedNew (ch := [e, it]) (fun b ob hb q => (sb.2 b (fun z => hb (by simp [z]))).trans (hk b ob (fun z => hb (by simp [z])) (fun z => hb (by simp [z])) q)) hf (Nat.le_refl _) new
    refine ⟨.ref s.heap.objs.size, _, I1, rfl, ⟨_, x, rfl, I.hok.fresh (Nat.le_refl _), rfl, fun ys hy => by rw [I.list_inj hy hq]; exact hx⟩, ⟨⟨u, ?_⟩, hit'.at fun o q => (sb.2 it (Ne.symm hne)).trans q, hne⟩, fun b hb => ?_⟩
    · have e1 : k0 + ((i + 1 : Nat) : Int) = k0 + (i : Nat) + 1 := by omega
      rw [e1]; exact he'
    · have hb' : b < s.heap.objs.size := by
        rcases (show b = e ∨ b = it by simpa using hb) with z | z
        · rw [z]; exact hel
        · rw [z]; exact hil
      rw [upd_ne (Nat.ne_of_lt hb')]
      exact (hf b hb).1
  done := by
    intro X hP hw hK hc i pins s σ H E I hf st hg
    subst hP hw hK
    obtain ⟨⟨old, he⟩, hit, hne⟩ := st
    obtain ⟨xs, hq, hx⟩ := hg
    obtain ⟨its, rv, p, hz⟩ := I.list hq
    obtain ⟨f0, f1, f2, f3, f4, f5⟩ := hf it (by simp)
    have hl := rv.length
    have hai : a ≠ it := fun z => by
      obtain ⟨o1, q1, q2, _⟩ := p.isList
      obtain ⟨o2, q3, q4, _⟩ := hit
      subst z
      rw [q3] at q1
      obtain rfl := Option.some.inj q1
      rw [q4] at q2
      injection q2 with q2
      exact absurd q2 (by decide)
    have ei : its.toArray.size = i := by simp; omega
    refine wpAny_pyNext_enum_endD (Draws.list (A := X.A.in1) (I.ok.hd hc) it a hai its.toArray) he ⟨by rw [ei]; exact hit, p.isList⟩ fun h' eb => ⟨rfl, I.turned (t' := s.toks) (fun b o hb q => eb b o hb q) f0 f1 f3 f4 f5⟩
  self := fun A i s Q E st h => by
    obtain ⟨⟨_, he⟩, _⟩ := st
    exact wpAny_pyIter_enum he h
def iEnumK (K : PySem.W.Frag) (ta tk : TA) : TI := fun σ H R => ta σ H fun vs H1 => tk σ H1 fun zs H2 => ∃ a xs k, vs = [.ref a] ∧ zs = [.int k] ∧ -(2 ^ 62) ≤ k ∧ k < 2 ^ 62 ∧ SqL K H2 a xs ∧ R (IteK K a k) H2
theorem pi_enumK {X : Cx} {e ke : Expr} {ta tk : TA} {p pos tpos kp : Pos} {elts : List Expr} {kk : Nat} (hg : Gl X "enumerate") (hm : X.mg "enumerate" = none) (ha : PA X [e] ta) (hk : PK X [⟨some (Str.ofString "start"), ke, kp⟩] tk)
    (he : backTo pos (starEach [e] X.env) = (false, eval e X.env) :: backTo pos (starEach [] X.env) := by rfl) (hpl : (backTo pos (starEach [e] X.env)).any (·.1) = false := by rfl)
    (hall : (backToKw pos (keywordEach [⟨some (Str.ofString "start"), ke, kp⟩] X.env)).all (·.1.isSome) = true := by rfl) (hnone : (backToKw pos (keywordEach [⟨some (Str.ofString "start"), ke, kp⟩] X.env)).any (·.1.isNone) = false := by rfl)
    (hks : (backToKw pos (keywordEach [⟨some (Str.ofString "start"), ke, kp⟩] X.env)).filterMap (·.1) = [Str.ofString "start"] := by rfl) :
    PI X (.Tuple elts kk tpos) (.Call (.Name "enumerate" p) [e] [⟨some (Str.ofString "start"), ke, kp⟩] pos) (iEnumK X.K ta tk) := by
  refine ⟨fun pins s σ H R I h => ?_⟩
  refine wpAny_Call_Name_kw (ld_blt I hg hm boot_enumerate ?_ (by decide) (by decide))
  refine callWith_tyK hpl hnone ?_
  rw [he]
  refine evalArgs_kwB hall ?_
  rw [← he]
  refine thn (ha.run pos pins s σ H _ I h) fun us s1 ⟨vs, H1, I1, r1, q1⟩ => thn (hk.run pos pins s1 σ H1 _ I1 q1) fun ws s2 ⟨zs, H2, I2, r2, a, xs, k, ex, ez, k0, k1, hq, q⟩ => ?_
  subst ex ez
  rw [hks]
  obtain ⟨u, rfl, ru⟩ := r1.one
  obtain ⟨v, rfl, rv⟩ := r2.one
  obtain rfl : u = Value.ref a := ru
  obtain ⟨t, rfl⟩ := rv
  obtain ⟨its, rvs, p', hz⟩ := I2.list hq
  refine enum_begins_start (begins_list a its.toArray) p'.isList (by omega) (by omega) fun h' hen hit hsz hkp => ?_
  refine wpAny_pyIter_enum hen ?_
  have I3 : Inv X pins σ H2 { s2 with heap := h' } := I2.kept (t' := s2.toks) hkp
  have li : h'.IsListIter s2.heap.objs.size a 0 := ⟨_, hit, rfl, rfl⟩
  refine ⟨s2.heap.objs.size + 1, [s2.heap.objs.size + 1, s2.heap.objs.size], _, _, H2, rfl, I3, turn_enumK k a (s2.heap.objs.size + 1) s2.heap.objs.size, ⟨⟨.none, by rw [show k + ((0 : Nat) : Int) = k by omega]; exact hen⟩, li, Nat.succ_ne_self _⟩, fun b hb => ?_, q⟩
  have hle : s2.heap.objs.size ≤ b := by
    rcases (show b = s2.heap.objs.size + 1 ∨ b = s2.heap.objs.size by simpa using hb) with z | z
    · rw [z]; exact Nat.le_add_right _ _
    · rw [z]; exact Nat.le_refl _
  exact I2.fpOk hle (I2.hok.fresh hle)
theorem walk_enumK {K : PySem.W.Frag} {a : Addr} {xs : List V} {k : Int} : Walk (IteK K a k) xs.length (fun H => SqL K H a xs) (YPair (fun i => some (.int (k + (i : Nat)))) (fun i => xs[i]?)) := by
  refine ⟨fun i _ hi q => ⟨xs, xs[i], q, by simp [hi]⟩, fun _ q => ⟨xs, q, rfl⟩, fun i H v H' _ q y => ?_⟩
  obtain ⟨T, x, h1, h2, h3, h4⟩ := y
  exact ⟨T, .int (k + (i : Nat)), x, h1, h2, h3, rfl, h4 xs q⟩
/-! a def called with keywords alone -/
section
variable {X : Cx} {CX : CXT} {k : Nat} {f : Addr} {fd : FuncData} {ps ks : List Str} {sp : Sp} {E : XK} {x : Str} {p pos : Pos} {kws : List Keyword} {tk : TA} {g : List Value → List Value → List Value} {gV : List V → List V → List V}
def tCallK0 (sp : Sp) (gV : List V → List V → List V) (E : XK) (tk : TA) : TE := fun σ H Q => tk σ H fun zs H2 => sp (gV [] zs) H2 Q E
theorem pe_callK0 (F : FnOk X.prog X.w X.K X.mg X.base CX k f fd ps sp) (hr : Room k X.A) (hg : Gl X x) (hm : X.mg x = some (.ref f)) (hk : PySem.W.keepIn X.K (.ref f) = true) (hb : KBinds X.K fd ps ks g gV) (hx : Passes CX X E) (hkw : PK X kws tk)
    (hall : (backToKw pos (keywordEach kws X.env)).all (·.1.isSome) = true := by rfl) (hks : (backToKw pos (keywordEach kws X.env)).filterMap (·.1) = ks := by rfl) (hdb : (x == ("__debug__" : Str)) = false := by decide)
    (hpl : ((backTo pos (starEach [] X.env)).any (·.1) || (backToKw pos (keywordEach kws X.env)).any (·.1.isNone)) = false := by rfl) : PE X (.Call (.Name x p) [] kws pos) (tCallK0 sp gV E tk) := by
  refine ⟨fun pins s σ H Q I h => ?_⟩
  refine wpAny_Call_Name_kw (ld_glob I hg hm ?_ hdb)
  refine PySem.W.callWith_KW0 (h₀ := X.base) I.ok.mod.kin hk hall (thn (hkw.run pos pins s σ H _ I h) fun ws s2 ⟨zs, H2, I2, rz, q2⟩ => ⟨I2.kIn, ?_⟩) hpl
  rw [hks]
  exact run_fnk F hr hb hx I2 .nil rz q2
end
end Hw

set_option Elab.async false
set_option linter.all false
set_option maxRecDepth 100000
set_option maxHeartbeats 4000000
namespace Hw
open PySem L2 PyProof.Rows
/-! the less and the greater of two texts -/
def strLt (a b : Str) : Bool := decide (a.cps.toList < b.cps.toList)
def txtV : Value → Str
  | .str x _ => x
  | _ => Str.ofString ""
def IsS (v : Value) : Prop := ∃ x t, v = .str x t
theorem cmpS_lt {prog : Program} {w : World} {A : Around} (vs : Array Value) (hn : ∀ v ∈ vs, IsS v) :
    CmpOf prog w A .Lt (fun i v => vs[i]? = some v) (fun i j => strLt (txtV (vs.getD i .none)) (txtV (vs.getD j .none))) := fun i j vi vj s Q E hi hj h => by
  have e1 : vs.getD i .none = vi := by simp [Array.getD_eq_getD_getElem?, hi]
  have e2 : vs.getD j .none = vj := by simp [Array.getD_eq_getD_getElem?, hj]
  simp only [e1, e2] at h
  obtain ⟨x, t, rfl⟩ := hn _ (Array.mem_of_getElem? hi)
  obtain ⟨y, u, rfl⟩ := hn _ (Array.mem_of_getElem? hj)
  exact PyProof.Rows.lt_str h
theorem cmpS_gt {prog : Program} {w : World} {A : Around} (vs : Array Value) (hn : ∀ v ∈ vs, IsS v) :
    CmpOf prog w A .Gt (fun i v => vs[i]? = some v) (fun i j => strLt (txtV (vs.getD j .none)) (txtV (vs.getD i .none))) := fun i j vi vj s Q E hi hj h => by
  have e1 : vs.getD i .none = vi := by simp [Array.getD_eq_getD_getElem?, hi]
  have e2 : vs.getD j .none = vj := by simp [Array.getD_eq_getD_getElem?, hj]
  simp only [e1, e2] at h
  obtain ⟨x, t, rfl⟩ := hn _ (Array.mem_of_getElem? hi)
  obtain ⟨y, u, rfl⟩ := hn _ (Array.mem_of_getElem? hj)
  exact PySem.P.gt_str h
theorem max_two_S {prog : Program} {w : World} {A : Around} {E : Value → Shared → Prop} {s : Shared} {Q : Value → Shared → Prop} {a b : Value} (hh : A.handled = none) (ha : IsS a) (hb : IsS b)
    (h : ∀ h' tk, (∀ c o, s.heap.get? c = some o → h'.get? c = some o) → Q (if strLt (txtV a) (txtV b) then b else a) { s with heap := h', toks := tk }) :
    wpAny (model prog w) A (call (.builtin "max") [a, b]) Q E s := by
  have hT : (s.heap.push { cls := .type "tuple", data := .seq #[a, b] }).IsTuple s.heap.objs.size #[a, b] := ⟨_, Heap.get?_push_size _ rfl, rfl, 0, rfl⟩
  refine call_max_two (wpAny_pyIter_tuple hT ?_)
  have hsz : (s.heap.push { cls := .type "tuple", data := .seq #[a, b] }).objs.size = s.heap.objs.size + 1 := Heap.size_push ..
  refine ⟨_, [_, s.heap.objs.size], [_], _, _, _, _, rfl, Walks.tuple (A := A.in1) hh _ s.heap.objs.size (by rw [hsz]; exact Nat.ne_of_lt (Nat.lt_succ_self _)) #[a, b],
    ⟨⟨_, Heap.get?_push_size _ rfl, rfl, rfl⟩, hT.push _⟩, fun c hc => ?_, by simp, cmpS_gt #[a, b] (by simp [ha, hb]), fun v h' tk hP hk => ?_⟩
  · show c < ((s.heap.push _).push _).objs.size
    rw [Heap.size_push, hsz]
    rcases List.mem_cons.mp hc with rfl | hc
    · rw [hsz]; exact Nat.lt_succ_self _
    · rcases List.mem_cons.mp hc with rfl | hc
      · exact Nat.lt_succ_of_lt (Nat.lt_succ_self _)
      · cases hc
  · have hold : ∀ c o, s.heap.get? c = some o → h'.get? c = some o := fun c o e => by
      refine hk c o (fun hm => ?_) (Heap.get?_push_of_some _ (Heap.get?_push_of_some _ e))
      rcases List.mem_cons.mp hm with e1 | hm
      · have := Heap.lt_size e; rw [e1, hsz] at this; exact Nat.lt_irrefl _ (Nat.lt_of_succ_lt this)
      · cases hm
    have := h h' tk hold
    have hv : v = if strLt (txtV a) (txtV b) then b else a := by
      cases hc : strLt (txtV a) (txtV b) <;> simp [argBest, hc] at hP <;> simp [hP]
    rw [hv]; exact this
theorem min_two_S {prog : Program} {w : World} {A : Around} {E : Value → Shared → Prop} {s : Shared} {Q : Value → Shared → Prop} {a b : Value} (hh : A.handled = none) (ha : IsS a) (hb : IsS b)
    (h : ∀ h' tk, (∀ c o, s.heap.get? c = some o → h'.get? c = some o) → Q (if strLt (txtV b) (txtV a) then b else a) { s with heap := h', toks := tk }) :
    wpAny (model prog w) A (call (.builtin "min") [a, b]) Q E s := by
  have hT : (s.heap.push { cls := .type "tuple", data := .seq #[a, b] }).IsTuple s.heap.objs.size #[a, b] := ⟨_, Heap.get?_push_size _ rfl, rfl, 0, rfl⟩
  refine call_min_two (wpAny_pyIter_tuple hT ?_)
  have hsz : (s.heap.push { cls := .type "tuple", data := .seq #[a, b] }).objs.size = s.heap.objs.size + 1 := Heap.size_push ..
  refine ⟨_, [_, s.heap.objs.size], [_], _, _, _, _, rfl, Walks.tuple (A := A.in1) hh _ s.heap.objs.size (by rw [hsz]; exact Nat.ne_of_lt (Nat.lt_succ_self _)) #[a, b],
    ⟨⟨_, Heap.get?_push_size _ rfl, rfl, rfl⟩, hT.push _⟩, fun c hc => ?_, by simp, cmpS_lt #[a, b] (by simp [ha, hb]), fun v h' tk hP hk => ?_⟩
  · show c < ((s.heap.push _).push _).objs.size
    rw [Heap.size_push, hsz]
    rcases List.mem_cons.mp hc with rfl | hc
    · rw [hsz]; exact Nat.lt_succ_self _
    · rcases List.mem_cons.mp hc with rfl | hc
      · exact Nat.lt_succ_of_lt (Nat.lt_succ_self _)
      · cases hc
  · have hold : ∀ c o, s.heap.get? c = some o → h'.get? c = some o := fun c o e => by
      refine hk c o (fun hm => ?_) (Heap.get?_push_of_some _ (Heap.get?_push_of_some _ e))
      rcases List.mem_cons.mp hm with e1 | hm
      · have := Heap.lt_size e; rw [e1, hsz] at this; exact Nat.lt_irrefl _ (Nat.lt_of_succ_lt this)
      · cases hm
    have := h h' tk hold
    have hv : v = if strLt (txtV b) (txtV a) then b else a := by
      cases hc : strLt (txtV b) (txtV a) <;> simp [argBest, hc] at hP <;> simp [hP]
    rw [hv]; exact this
section
variable {X : Cx}
theorem call_maxS (hc : X.calm = true) : CallR X (.builtin "max") (fun xs H Q => ∃ a b, xs = [.str a, .str b] ∧ Q (.str (if strLt a b = true then b else a)) H) := by
  intro pins s σ H xs us Q I r h
  obtain ⟨i, j, rfl, q⟩ := h
  obtain ⟨u, w', rfl, ⟨t, rfl⟩, ⟨t', rfl⟩⟩ := vals2 r
  refine max_two_S (I.ok.hd hc) ⟨_, _, rfl⟩ ⟨_, _, rfl⟩ fun h' tk k => ⟨_, H, I.kept k, ?_, q⟩
  show RelV _ (if strLt i j = true then _ else _)
  by_cases hj : strLt i j = true
  · rw [if_pos hj, if_pos hj]; exact ⟨_, rfl⟩
  · rw [if_neg hj, if_neg hj]; exact ⟨_, rfl⟩
theorem call_minS (hc : X.calm = true) : CallR X (.builtin "min") (fun xs H Q => ∃ a b, xs = [.str a, .str b] ∧ Q (.str (if strLt b a = true then b else a)) H) := by
  intro pins s σ H xs us Q I r h
  obtain ⟨i, j, rfl, q⟩ := h
  obtain ⟨u, w', rfl, ⟨t, rfl⟩, ⟨t', rfl⟩⟩ := vals2 r
  refine min_two_S (I.ok.hd hc) ⟨_, _, rfl⟩ ⟨_, _, rfl⟩ fun h' tk k => ⟨_, H, I.kept k, ?_, q⟩
  show RelV _ (if strLt j i = true then _ else _)
  by_cases hj : strLt j i = true
  · rw [if_pos hj, if_pos hj]; exact ⟨_, rfl⟩
  · rw [if_neg hj, if_neg hj]; exact ⟨_, rfl⟩
/-! sorted over data, any number -/
def rSortB (K : PySem.W.Frag) : List V → Hp → VK → Prop := fun vs H Q => ∃ (a : Addr) (bs : List (V × PyData)), vs = [V.ref a] ∧ SqL K H a (bs.map (·.1)) ∧ (∀ b ∈ bs, Dp K H b.1 b.2 ∧ b.2.depth ≤ 50) ∧ PySem.W.AllAlike (bs.map (·.2)) ∧ PySem.W.Sortable (bs.map (·.2)) ∧ bs.length ≤ sizeLine ∧
  ∀ p, H p = none → Q (.ref p) (upd H p (.lst ((bs.mergeSort (PySem.W.dataLe false (·.2))).map (·.1))))
theorem each_of_vals {K : PySem.W.Frag} {P : Program} : ∀ {bs : List (V × PyData)} {us : List Value}, Vals (bs.map (·.1)) us → PySem.W.EachIs (fun (v : Value) (b : V × PyData) => RelV b.1 v) us bs
  | [], _, r => by cases r; exact .nil
  | b :: bs, _, r => by
    cases r with
    | cons r1 r2 => exact .cons r1 (each_of_vals (K := K) (P := P) r2)
theorem vals_of_each : ∀ {bs : List (V × PyData)} {us : List Value}, PySem.W.EachIs (fun (v : Value) (b : V × PyData) => RelV b.1 v) us bs → Vals (bs.map (·.1)) us
  | _, _, .nil => .nil
  | _, _, .cons r t => .cons r (vals_of_each t)
theorem reads_each {X : Cx} {pins : List (Addr × Obj)} {s : Shared} {σ : L2.St} {H : Hp} (I : Inv X pins σ H s) : ∀ {bs : List (V × PyData)} {us : List Value}, (∀ b ∈ bs, Dp X.K H b.1 b.2) → Vals (bs.map (·.1)) us → PySem.W.EachIs (fun (v : Value) (b : V × PyData) => ∃ as, Reads s.heap v b.2 as) us bs
  | [], _, _, r => by cases r; exact .nil
  | b :: bs, _, h, r => by
    cases r with
    | cons r1 r2 => exact .cons (Dp.reads I b.2 b.1 _ (h b List.mem_cons_self) r1) (reads_each I (fun b hb => h b (List.mem_cons_of_mem _ hb)) r2)
theorem cr_sortB (hu : X.A.units + 64 < cLine) : CallR X (.builtin "sorted") (rSortB X.K) := by
  intro pins s σ H vs us Q I r h
  obtain ⟨a, bs, rfl, hs, hd, hal, hk, hL, q⟩ := h
  obtain ⟨its, rv, hl, _⟩ := I.list hs
  rw [Vals.ref1 r]
  refine PySem.W.sorted_data (β := V × PyData) (vs := its) (bs := bs) (enc := (·.2)) (R := fun v b => RelV b.1 v) hl.isList (each_of_vals (K := X.K) (P := X.prog) rv) (reads_each I (fun b hb => (hd b hb).1) rv) hal hk hL (fun b hb => by have := (hd b hb).2; omega) fun out ho he => ?_
  have hv := vals_of_each he
  obtain ⟨ep, he'⟩ := PyProof.Rows.sortedAll_at s.heap its out.toArray
  have hlen : ((bs.mergeSort (PySem.W.dataLe false (·.2))).map (·.1)).length ≤ sizeLine := by rw [List.length_map, List.length_mergeSort]; exact hL
  exact ⟨.ref _, upd H (s.heap.objs.size + 1) (.lst ((bs.mergeSort (PySem.W.dataLe false (·.2))).map (·.1))), I.laid (t' := s.toks) (fun _ _ => PyProof.Rows.sortedAll_old) (Nat.le_succ _) ⟨hlen, out, ep, hv, he'⟩, rfl, q _ (I.hok.fresh (Nat.le_succ _))⟩
end

theorem walk_zipT {K : PySem.W.Frag} {a b : Addr} {xs ys : List V} {n : Nat} (hn : n = min xs.length ys.length) : Walk (RZ.ItzT K a b) n (fun H => SqT K H a xs ∧ SqT K H b ys) (YPair (fun i => xs[i]?) (fun i => ys[i]?)) := by
  subst hn
  refine ⟨fun i _ hi q => ?_, fun _ q => ⟨xs, ys, q.1, q.2, by omega⟩, fun i H v H' _ q y => ?_⟩
  · have h1 : i < xs.length := by omega
    have h2 : i < ys.length := by omega
    exact ⟨xs, ys, xs[i], ys[i], q.1, q.2, by simp [h1], by simp [h2]⟩
  · obtain ⟨T, x, z, h1, h2, h3, h4, h5⟩ := y
    exact ⟨T, x, z, h1, h2, h3, h4 xs q.1, h5 ys q.2⟩
/-! `<=` of two tuples of texts -/
theorem RcOp.le_str {A : Around} {s : Shared} (a b : Str) (t u : Tok) : Ob.RcOp .LtE A s (.str a t) (.str b u) (!strLt b a) := fun _ _ _ _ h => PySem.P.le_str h
def rLeS (K : PySem.W.Frag) : R2 := fun x y H Q => ∃ (a b : Addr) (ns ms : List Str), x = .ref a ∧ y = .ref b ∧ SqT K H a (ns.map V.str) ∧ SqT K H b (ms.map V.str) ∧
  Q (.bl (Ob.lexAt (fun j => ns.getD j (Str.ofString "") == ms.getD j (Str.ofString "")) (fun j => !strLt (ms.getD j (Str.ofString "")) (ns.getD j (Str.ofString ""))) (decide (ns.length ≤ ms.length)) 0 (min ns.length ms.length))) H
theorem str_item {us : List Value} {xs : List Str} (r : Vals (xs.map V.str) us) (j : Nat) (h : j < us.toArray.size) : ∃ t, us.toArray[j] = .str (xs.getD j (Str.ofString "")) t := by
  have h' : j < us.length := by simpa using h
  have hl := r.length
  rw [List.length_map] at hl
  obtain ⟨u, hu, ru⟩ := r.get (i := j) (x := V.str (xs.getD j (Str.ofString ""))) (by
    rw [List.getElem?_map, List.getElem?_eq_getElem (by omega : j < xs.length), List.getD_eq_getElem?_getD, List.getElem?_eq_getElem (by omega : j < xs.length)]; rfl)
  obtain ⟨t, rfl⟩ := ru
  refine ⟨t, ?_⟩
  rw [List.getElem?_eq_getElem h'] at hu
  simpa using Option.some.inj hu
theorem op_leS {X : Cx} (hu : X.A.units < cLine) : OpR X (compareOp .LtE) (rLeS X.K) := by
  intro pins s σ H x y v u Q I rx ry h
  obtain ⟨a, b, ns, ms, rfl, rfl, ha, hb, q⟩ := h
  cases rx
  cases ry
  obtain ⟨its, r1, p1, _⟩ := I.tuple ha
  obtain ⟨its2, r2, p2, _⟩ := I.tuple hb
  have e1 : its.toArray.size = ns.length := by rw [List.size_toArray, ← r1.length, List.length_map]
  have e2 : its2.toArray.size = ms.length := by rw [List.size_toArray, ← r2.length, List.length_map]
  have R := Ob.RcOp.tuples_le (A := X.A) (s := s) (e := fun j => ns.getD j (Str.ofString "") == ms.getD j (Str.ofString "")) (r := fun j => !strLt (ms.getD j (Str.ofString "")) (ns.getD j (Str.ofString ""))) p1 p2 hu (fun j h1 h2 => by
    obtain ⟨t, et⟩ := str_item r1 j h1
    obtain ⟨t', et'⟩ := str_item r2 j h2
    rw [et, et']
    exact SeqAt.EqAt.str_str _ _ _ _) (fun j h1 h2 _ => by
    obtain ⟨t, et⟩ := str_item r1 j h1
    obtain ⟨t', et'⟩ := str_item r2 j h2
    rw [et, et']
    exact RcOp.le_str _ _ _ _)
  rw [e1, e2] at R
  have z : wpAny (model X.prog X.w) X.A (compareOp .LtE (.ref a) (.ref b)) (EP X pins σ Q) X.xe s := R X.prog X.w X.xe (EP X pins σ Q) ⟨.bl _, H, I, rfl, q⟩
  exact z

/-! `v in x`, `v not in x` by the class's own `__contains__` -/
section
variable {X : Cx} {CX : CXT} {k : Nat} {f C : Addr} {fd : FuncData} {ps : List Str} {sp : Sp} {dvs : List V} {ds : List Value} {E : XK}
def rInM (C : Addr) (sp : Sp) (dvs : List V) (E : XK) (neg : Bool) : R2 := fun x y H Q => ∃ p dx fs, y = .ref p ∧ H p = some (.ins C dx fs) ∧ sp ([.ref p, x] ++ dvs) H (fun r H' => ∃ b, r = .bl b ∧ Q (.bl (if neg = true then !b else b)) H') E
theorem has_M {pins : List (Addr × Obj)} {s : Shared} {σ : L2.St} {H : Hp} {x : V} {v : Value} {p dx : Addr} {fs : List (Str × V)} {Qb : Bool → Shared → Prop} {Q' : VK} (I : Inv X pins σ H s) (rx : RelV x v) (hp : H p = some (.ins C dx fs)) (hm : Meth X.K C "__contains__" f) (F : FnOk X.prog X.w X.K X.mg X.base CX k f fd ps sp) (hr : Room k X.A) (hb : Binds X.K fd ps ds) (hd : Vals dvs ds) (hx : Passes CX X E)
    (h : sp ([.ref p, x] ++ dvs) H Q' E) (hq : ∀ u s1, EP X pins σ Q' u s1 → ∃ b, u = .bool b ∧ Qb b s1) : wpAny (model X.prog X.w) X.A (contains (.ref p) v) Qb X.xe s := by
  obtain ⟨mA, O, r, _⟩ := ins_get I.hok hp
  obtain ⟨od, J, hl⟩ := O.look
  unfold contains
  refine wpAny_holding (wpAny_bind (wpAny_bind (J.type.here ((PySem.W.looks_findIn I.kIn hm.at_).here ?_))))
  rw [if_neg (by simp)]
  refine wpAny_bind (PySem.W.unlessNone_K I.kIn J hm.at_ hm.fn ?_)
  refine thn (run_fn (us := [.ref p, v]) (vs := [.ref p, x]) F hr hb hd hx I (.cons rfl (.cons rx .nil)) h) fun u s1 hu => ?_
  obtain ⟨b, rfl, q⟩ := hq u s1 hu
  exact wpAny_truthy_bool q
theorem op_inM (hm : Meth X.K C "__contains__" f) (F : FnOk X.prog X.w X.K X.mg X.base CX k f fd ps sp) (hr : Room k X.A) (hb : Binds X.K fd ps ds) (hd : Vals dvs ds) (hx : Passes CX X E) : OpR X (compareOp .In) (rInM C sp dvs E false) := by
  intro pins s σ H x y v u Q I rx ry h
  obtain ⟨p, dx, fs, rfl, hp, h⟩ := h
  obtain rfl : u = Value.ref p := ry
  refine wpAny_bind (has_M (Qb := fun b s1 => wpAny (model X.prog X.w) X.A (pure (Value.bool b)) (EP X pins σ Q) X.xe s1) I rx hp hm F hr hb hd hx h fun u s1 hu => ?_)
  obtain ⟨z, H', I', rz, b, rfl, q⟩ := hu
  cases rz
  exact ⟨b, rfl, wpAny_pure ⟨.bl b, H', I', rfl, q⟩⟩
theorem op_notInM (hm : Meth X.K C "__contains__" f) (F : FnOk X.prog X.w X.K X.mg X.base CX k f fd ps sp) (hr : Room k X.A) (hb : Binds X.K fd ps ds) (hd : Vals dvs ds) (hx : Passes CX X E) : OpR X (compareOp .NotIn) (rInM C sp dvs E true) := by
  intro pins s σ H x y v u Q I rx ry h
  obtain ⟨p, dx, fs, rfl, hp, h⟩ := h
  obtain rfl : u = Value.ref p := ry
  refine wpAny_bind (has_M (Qb := fun b s1 => wpAny (model X.prog X.w) X.A (pure (Value.bool (!b))) (EP X pins σ Q) X.xe s1) I rx hp hm F hr hb hd hx h fun u s1 hu => ?_)
  obtain ⟨z, H', I', rz, b, rfl, q⟩ := hu
  cases rz
  exact ⟨b, rfl, wpAny_pure ⟨.bl (!b), H', I', rfl, q⟩⟩
end
end Hw

set_option Elab.async false
set_option linter.all false
set_option maxRecDepth 100000
namespace Hw
open PySem L2 PyProof.Rows
/-! texts as lists of codes -/
def SL (l : List Nat) : Str := ⟨l.toArray⟩
theorem SL_cps (l : List Nat) : (SL l).cps.toList = l := rfl
theorem SL_of (z : Str) : SL z.cps.toList = z := by obtain ⟨a⟩ := z; rfl
theorem str_ext {x y : Str} (h : x.cps.toList = y.cps.toList) : x = y := by rw [← SL_of x, ← SL_of y, h]
theorem SL_len (l : List Nat) : (SL l).length = l.length := by show l.toArray.size = l.length; simp
theorem len_cps (z : Str) : z.length = z.cps.toList.length := by obtain ⟨a⟩ := z; simp [Str.length]
theorem app_cps (x y : Str) : (x ++ y).cps.toList = x.cps.toList ++ y.cps.toList := by
  show (x.cps ++ y.cps).toList = _
  simp
theorem app_len (x y : Str) : (x ++ y).length = x.length + y.length := by rw [len_cps, len_cps, len_cps, app_cps, List.length_append]
theorem sjoin_cps0 : ∀ (cs : List Str), (Str.join (Str.ofString "") cs).cps.toList = cs.flatMap fun z => z.cps.toList
  | [] => rfl
  | [x] => by simp [Str.join]
  | x :: y :: r => by
    have ih := sjoin_cps0 (y :: r)
    have e : Str.join (Str.ofString "") (x :: y :: r) = x ++ Str.ofString "" ++ Str.join (Str.ofString "") (y :: r) := rfl
    rw [e, app_cps, app_cps, ih]
    show x.cps.toList ++ [] ++ _ = _
    rw [List.append_nil]; rfl
theorem join_cps0 (cs : List Str) : (Txt.join (Str.ofString "") cs).cps.toList = cs.flatMap fun z => z.cps.toList := by rw [TL.join_eq]; exact sjoin_cps0 cs
/-- a name: one to eight letters -/
def Nm (z : Str) : Prop := 1 ≤ z.length ∧ z.length ≤ 8 ∧ ∀ c ∈ z.cps.toList, 97 ≤ c ∧ c ≤ 122
instance (z : Str) : Decidable (Nm z) := by unfold Nm; exact inferInstance
/-- the words that are tried in the place of a word that is known -/
def cand (w : Str) : Nat → Str
  | 0 => w
  | k + 1 => SL ([97 + k / 26, 97 + k % 26] ++ w.cps.toList.drop 2)
theorem cand_drop (w : Str) : ∀ k, (cand w k).cps.toList.drop 2 = w.cps.toList.drop 2
  | 0 => rfl
  | k + 1 => by
    show (SL ([97 + k / 26, 97 + k % 26] ++ w.cps.toList.drop 2)).cps.toList.drop 2 = _
    rw [SL_cps]; rfl
theorem cand_nm {w : Str} (h : Nm w) {k : Nat} (hk : k ≤ 676) : Nm (cand w k) := by
  cases k with
  | zero => exact h
  | succ k =>
    obtain ⟨h1, h2, h3⟩ := h
    have e : (cand w (k + 1)).cps.toList = [97 + k / 26, 97 + k % 26] ++ w.cps.toList.drop 2 := SL_cps _
    have l : (cand w (k + 1)).length = 2 + (w.length - 2) := by
      rw [len_cps, e, List.length_append, List.length_drop, ← len_cps]; rfl
    refine ⟨by omega, by omega, fun c hc => ?_⟩
    rw [e] at hc
    rcases List.mem_append.mp hc with hc | hc
    · simp only [List.mem_cons, List.not_mem_nil, or_false] at hc
      rcases hc with rfl | rfl <;> omega
    · exact h3 c (List.mem_of_mem_drop hc)
theorem cand_inj {w : Str} {i j : Nat} (h : cand w (i + 1) = cand w (j + 1)) : i = j := by
  have e : ([97 + i / 26, 97 + i % 26] ++ w.cps.toList.drop 2) = ([97 + j / 26, 97 + j % 26] ++ w.cps.toList.drop 2) := by
    have z := congrArg (fun s : Str => s.cps.toList) h
    exact z
  injection e with e1 e2
  injection e2 with e2 e3
  omega
theorem sub_len {α : Type} [DecidableEq α] : ∀ {l m : List α}, l.Nodup → (∀ x ∈ l, x ∈ m) → l.length ≤ m.length
  | [], _, _, _ => Nat.zero_le _
  | a :: l, m, hn, hs => by
    obtain ⟨ha, hl⟩ := List.nodup_cons.mp hn
    have hm : a ∈ m := hs a List.mem_cons_self
    have ih := sub_len (m := m.erase a) hl fun x hx => by
      refine (List.mem_erase_of_ne ?_).mpr (hs x (List.mem_cons_of_mem _ hx))
      rintro rfl; exact ha hx
    have e := List.length_erase_of_mem hm
    have p : 0 < m.length := List.length_pos_of_mem hm
    rw [List.length_cons]; omega
theorem cand_few {w : Str} {ks : List Str} {k : Nat} (h : ∀ j, j < k → cand w j ∈ ks) : k ≤ ks.length + 1 := by
  cases k with
  | zero => omega
  | succ k =>
    have z := sub_len (l := (List.range k).map fun j => cand w (j + 1)) (m := ks) ?_ ?_
    · rw [List.length_map, List.length_range] at z; omega
    · rw [List.Nodup, List.pairwise_map]
      exact List.Pairwise.imp (fun {i j} hij e => hij (cand_inj e)) (List.nodup_range (n := k))
    · intro x hx
      obtain ⟨j, hj, rfl⟩ := List.mem_map.mp hx
      exact h (j + 1) (by have := List.mem_range.mp hj; omega)
def alpha : Str := Str.ofString "abcdefghijklmnopqrstuvwxyz"
theorem alpha_at : ∀ k, k < 26 → alpha.cps.toList[k]? = some (97 + k) := by decide +kernel
theorem alpha_mem : ∀ c ∈ alpha.cps.toList, 97 ≤ c ∧ c ≤ 122 := by decide +kernel
theorem alpha_len : alpha.length = 26 := by decide +kernel
theorem ones_join (cs : List Nat) : (Txt.join (Str.ofString "") (cs.map fun c => SL [c])).cps.toList = cs := by
  rw [join_cps0, List.flatMap_map]
  induction cs with
  | nil => rfl
  | cons c cs ih =>
    rw [List.flatMap_cons, ih]; rfl
end Hw

set_option Elab.async false
set_option linter.all false
set_option maxRecDepth 100000
set_option maxHeartbeats 4000000
namespace Hw
open PySem PySem.Spec L2 PyProof.Rows
/-! the order of texts and of pairs of texts -/
theorem strLt_irr (a : Str) : strLt a a = false := decide_eq_false (List.lt_irrefl _)
theorem strLt_tr {a b c : Str} (h : strLt a b = true) (h' : strLt b c = true) : strLt a c = true := decide_eq_true (List.lt_trans (of_decide_eq_true h) (of_decide_eq_true h'))
theorem strLt_as {a b : Str} (h : strLt a b = true) : strLt b a = false := by
  cases e : strLt b a with
  | false => rfl
  | true => have := strLt_tr h e; rw [strLt_irr] at this; cases this
theorem strLt_tri {a b : Str} (h : strLt a b = false) (h' : strLt b a = false) : a = b := by
  refine str_ext (List.le_antisymm ?_ ?_)
  · exact List.not_lt.mp (of_decide_eq_false h')
  · exact List.not_lt.mp (of_decide_eq_false h)
theorem strLt_ne {a b : Str} (h : strLt a b = true) : a ≠ b := fun e => by rw [e, strLt_irr] at h; cases h
def leS (a b : Str) : Bool := !strLt b a
theorem leS_tr (a b c : Str) (h : leS a b = true) (h' : leS b c = true) : leS a c = true := by
  unfold leS at *
  cases e : strLt c a with
  | false => rfl
  | true =>
    cases e1 : strLt b a with
    | true => rw [e1] at h; cases h
    | false =>
      cases e2 : strLt a b with
      | true => rw [strLt_tr e e2] at h'; cases h'
      | false => rw [strLt_tri e1 e2, e] at h'; cases h'
theorem leS_tot (a b : Str) : (leS a b || leS b a) = true := by
  unfold leS
  cases e : strLt b a with
  | false => rfl
  | true => rw [strLt_as e]; rfl
theorem leS_anti {a b : Str} (h : leS a b = true) (h' : leS b a = true) : a = b := by
  unfold leS at h h'
  exact strLt_tri (by simpa using h') (by simpa using h)
def sortS (l : List Str) : List Str := l.mergeSort leS
def Asc (l : List Str) : Prop := l.Pairwise fun a b => strLt a b = true
theorem sortS_perm (l : List Str) : (sortS l).Perm l := List.mergeSort_perm l leS
theorem sortS_le (l : List Str) : (sortS l).Pairwise fun a b => leS a b = true := List.pairwise_mergeSort leS_tr leS_tot l
theorem asc_of_le {l : List Str} (h : l.Pairwise fun a b => leS a b = true) (hn : l.Nodup) : Asc l := by
  refine (h.and hn).imp ?_
  rintro a b ⟨h1, h2⟩
  cases e : strLt a b with
  | true => rfl
  | false => exact absurd (strLt_tri e (by simpa [leS] using h1)) h2
theorem sortS_asc {l : List Str} (h : l.Nodup) : Asc (sortS l) := asc_of_le (sortS_le l) ((sortS_perm l).nodup_iff.mpr h)
theorem Asc.nodup {l : List Str} (h : Asc l) : l.Nodup := h.imp fun q => strLt_ne q
theorem Asc.le {l : List Str} (h : Asc l) : l.Pairwise fun a b => leS a b = true := h.imp fun q => by unfold leS; rw [strLt_as q]; rfl
theorem sortS_eq {l m : List Str} (h : m.Perm l) (hm : m.Pairwise fun a b => leS a b = true) : m = sortS l :=
  List.Perm.eq_of_pairwise (le := fun a b => leS a b = true) (fun a b _ _ h1 h2 => leS_anti h1 h2) hm (sortS_le l) (h.trans (sortS_perm l).symm)
theorem sortS_asc_id {l : List Str} (h : Asc l) : sortS l = l := (sortS_eq (.refl _) h.le).symm
theorem sortS_of_perm {l m : List Str} (h : l.Perm m) : sortS l = sortS m := sortS_eq ((sortS_perm l).trans h) (sortS_le l)
theorem risingS_le : ∀ (l : List Str) (p : Str), risingS p l = true → (p :: l).Pairwise fun a b => leS a b = true
  | [], _, _ => List.pairwise_singleton _ _
  | x :: r, p, h => by
    have h' : (!ltCps x.cps.toList p.cps.toList && risingS x r) = true := h
    rw [Bool.and_eq_true] at h'
    have ih := risingS_le r x h'.2
    have hpx : leS p x = true := by
      have := h'.1
      rw [PyProof.Rows.ltCps_eq] at this
      exact this
    refine List.pairwise_cons.mpr ⟨fun y hy => ?_, ih⟩
    rcases List.mem_cons.mp hy with rfl | hy
    · exact hpx
    · exact leS_tr _ _ _ hpx ((List.pairwise_cons.mp ih).1 y hy)
theorem sortedS_le : ∀ {l : List Str}, sortedS l = true → l.Pairwise fun a b => leS a b = true
  | [], _ => .nil
  | x :: r, h => risingS_le r x h
theorem sortedS_eq {l m : List Str} (h : m.Perm l) (hm : sortedS m = true) : m = sortS l := sortS_eq h (sortedS_le hm)
abbrev Tie := Str × Str
def ltP (p q : Tie) : Bool := if p.1 == q.1 then strLt p.2 q.2 else strLt p.1 q.1
def leP (p q : Tie) : Bool := !ltP q p
theorem ltP_irr (p : Tie) : ltP p p = false := by unfold ltP; rw [if_pos (beq_self_eq_true _), strLt_irr]
theorem ltP_iff {p q : Tie} : ltP p q = true ↔ strLt p.1 q.1 = true ∨ p.1 = q.1 ∧ strLt p.2 q.2 = true := by
  unfold ltP
  by_cases h : p.1 = q.1
  · rw [if_pos (beq_iff_eq.mpr h), h, strLt_irr]; simp
  · rw [if_neg (by simpa using h)]; simp [h]
theorem ltP_tr {p q r : Tie} (h : ltP p q = true) (h' : ltP q r = true) : ltP p r = true := by
  rw [ltP_iff] at *
  rcases h with h | ⟨e, h⟩ <;> rcases h' with h' | ⟨e', h'⟩
  · exact .inl (strLt_tr h h')
  · exact .inl (e' ▸ h)
  · exact .inl (e ▸ h')
  · exact .inr ⟨e.trans e', strLt_tr h h'⟩
theorem ltP_tri {p q : Tie} (h : ltP p q = false) (h' : ltP q p = false) : p = q := by
  have a : ¬ (ltP p q = true) := by rw [h]; exact Bool.false_ne_true
  have b : ¬ (ltP q p = true) := by rw [h']; exact Bool.false_ne_true
  rw [ltP_iff] at a b
  have e : p.1 = q.1 := strLt_tri (by simpa using fun z => a (.inl z)) (by simpa using fun z => b (.inl z))
  have e2 : p.2 = q.2 := strLt_tri (by simpa using fun z => a (.inr ⟨e, z⟩)) (by simpa using fun z => b (.inr ⟨e.symm, z⟩))
  exact Prod.ext e e2
theorem ltP_as {p q : Tie} (h : ltP p q = true) : ltP q p = false := by
  cases e : ltP q p with
  | false => rfl
  | true => have := ltP_tr h e; rw [ltP_irr] at this; cases this
theorem leP_tr (a b c : Tie) (h : leP a b = true) (h' : leP b c = true) : leP a c = true := by
  unfold leP at *
  cases e : ltP c a with
  | false => rfl
  | true =>
    cases e1 : ltP b a with
    | true => rw [e1] at h; cases h
    | false =>
      cases e2 : ltP a b with
      | true => rw [ltP_tr e e2] at h'; cases h'
      | false => rw [ltP_tri e1 e2, e] at h'; cases h'
theorem leP_tot (a b : Tie) : (leP a b || leP b a) = true := by
  unfold leP
  cases e : ltP b a with
  | false => rfl
  | true => rw [ltP_as e]; rfl
def sortP (l : List Tie) : List Tie := l.mergeSort leP
def AscP (l : List Tie) : Prop := l.Pairwise fun a b => ltP a b = true
theorem sortP_perm (l : List Tie) : (sortP l).Perm l := List.mergeSort_perm l leP
theorem sortP_le (l : List Tie) : (sortP l).Pairwise fun a b => leP a b = true := List.pairwise_mergeSort leP_tr leP_tot l
theorem sortP_asc {l : List Tie} (hn : l.Nodup) : AscP (sortP l) := by
  refine ((sortP_le l).and ((sortP_perm l).nodup_iff.mpr hn)).imp ?_
  rintro a b ⟨h1, h2⟩
  cases e : ltP a b with
  | true => rfl
  | false => exact absurd (ltP_tri e (by simpa [leP] using h1)) h2
/-! sorted of texts, of pairs of texts -/
def tieD (p : Tie) : PyData := .tuple [.str p.1, .str p.2]
theorem dataLe_tie (p q : Tie) : PySem.W.dataLe false id (tieD p) (tieD q) = leP p q := by
  rw [PySem.W.dataLe_eq]
  show (!PySem.W.dataLt (tieD q) (tieD p)) = _
  unfold tieD leP ltP
  rw [PySem.W.dataLt_pair (by simp [PySem.W.alike]) (by simp [PySem.W.alike]), PySem.W.dataLt_str, PySem.W.dataLt_str]
  simp only [PyData.eqv]
  by_cases h1 : q.1 = p.1
  · by_cases h2 : q.2 = p.2
    · simp [h1, h2, strLt]
    · simp [h1, h2, strLt]
  · simp [h1, strLt]
section
variable {X : Cx}
def rSortT (K : PySem.W.Frag) : List V → Hp → VK → Prop := fun vs H Q => ∃ (a : Addr) (zs : List Str), vs = [V.ref a] ∧ SqL K H a (zs.map V.str) ∧ zs.length ≤ sizeLine ∧ ∀ p, H p = none → Q (.ref p) (upd H p (.lst ((sortS zs).map V.str)))
theorem cr_sortT (hu : X.A.units + 64 < cLine) : CallR X (.builtin "sorted") (rSortT X.K) := by
  intro pins s σ H vs us Q I r h
  obtain ⟨a, zs, rfl, hs, hz, q⟩ := h
  have e1 : (zs.map fun z => (V.str z, PyData.str z)).map (·.1) = zs.map V.str := by rw [List.map_map]; rfl
  have e2 : (zs.map fun z => (V.str z, PyData.str z)).map (·.2) = zs.map PyData.str := by rw [List.map_map]; rfl
  refine cr_sortB hu pins s σ H _ us Q I r ⟨a, zs.map fun z => (V.str z, PyData.str z), rfl, by rw [e1]; exact hs, fun b hb => ?_, ?_, ?_, by rw [List.length_map]; exact hz, fun p hp => ?_⟩
  · obtain ⟨z, _, rfl⟩ := List.mem_map.mp hb
    exact ⟨Dp_flat rfl, by show PyData.depth (.str z) ≤ 50; rw [PyData.depth]; decide⟩
  · rw [e2]; exact PySem.W.AllAlike.of fun _ _ => by simp [PySem.W.alike]
  · rw [e2]; exact PySem.W.Sortable.others (enc := PyData.str) fun z => ⟨(fun e => nomatch e), fun xs e => nomatch e⟩
  · have e : (zs.map fun z => (V.str z, PyData.str z)).mergeSort (PySem.W.dataLe false (·.2)) = (sortS zs).map fun z => (V.str z, PyData.str z) := by
      refine (List.map_mergeSort fun a _ b _ => ?_).symm
      rw [PySem.W.dataLe_eq]
      show leS a b = !PySem.W.dataLt (.str b) (.str a)
      rw [PySem.W.dataLt_str]; rfl
    rw [e, List.map_map]
    exact q p hp

def TieAt (K : PySem.W.Frag) (H : Hp) (q : Addr) (p : Tie) : Prop := SqT K H q [.str p.1, .str p.2]
theorem zip_of {α β : Type} {F : α → β → Prop} : ∀ {xs : List α} {ys : List β}, Paired F xs ys → ∃ l : List (α × β), l.map (·.1) = xs ∧ l.map (·.2) = ys ∧ ∀ p ∈ l, F p.1 p.2
  | _, _, .nil => ⟨[], rfl, rfl, fun _ z => nomatch z⟩
  | _, _, .cons (a := a) (b := b) h t => by
    obtain ⟨l, rfl, rfl, h3⟩ := zip_of t
    refine ⟨(a, b) :: l, rfl, rfl, fun p hp => ?_⟩
    rcases List.mem_cons.mp hp with rfl | hp
    · exact h
    · exact h3 p hp
theorem paired_of {α β : Type} {F : α → β → Prop} : ∀ {l : List (α × β)}, (∀ p ∈ l, F p.1 p.2) → Paired F (l.map (·.1)) (l.map (·.2))
  | [], _ => .nil
  | p :: l, h => .cons (h p List.mem_cons_self) (paired_of fun q hq => h q (List.mem_cons_of_mem _ hq))
theorem paired_mem {α β : Type} {F : α → β → Prop} : ∀ {l : List (α × β)}, Paired F (l.map (·.1)) (l.map (·.2)) → ∀ p ∈ l, F p.1 p.2
  | [], _, _, z => nomatch z
  | q :: l, h, p, hp => by
    cases h with
    | cons h1 h2 =>
      rcases List.mem_cons.mp hp with rfl | hp
      · exact h1
      · exact paired_mem h2 p hp
def rSortTP (K : PySem.W.Frag) : List V → Hp → VK → Prop := fun vs H Q => ∃ (a : Addr) (qs : List Addr) (ps : List Tie), vs = [V.ref a] ∧ SqL K H a (qs.map V.ref) ∧ Paired (TieAt K H) qs ps ∧ ps.length ≤ sizeLine ∧
  ∀ p qs', H p = none → (∀ R : Addr → Tie → Prop, Paired R qs ps → Paired R qs' (sortP ps)) → Q (.ref p) (upd H p (.lst (qs'.map V.ref)))
theorem cr_sortTP (hu : X.A.units + 64 < cLine) : CallR X (.builtin "sorted") (rSortTP X.K) := by
  intro pins s σ H vs us Q I r h
  obtain ⟨a, qs, ps, rfl, hs, hp, hz, q⟩ := h
  obtain ⟨l, rfl, rfl, hl⟩ := zip_of hp
  have e1 : (l.map fun x => (V.ref x.1, tieD x.2)).map (·.1) = (l.map (·.1)).map V.ref := by rw [List.map_map, List.map_map]; rfl
  have e2 : (l.map fun x => (V.ref x.1, tieD x.2)).map (·.2) = (l.map (·.2)).map tieD := by rw [List.map_map, List.map_map]; rfl
  rw [List.length_map] at hz
  refine cr_sortB hu pins s σ H _ us Q I r ⟨a, l.map fun x => (V.ref x.1, tieD x.2), rfl, by rw [e1]; exact hs, fun b hb => ?_, ?_, ?_, by rw [List.length_map]; exact hz, fun p hp => ?_⟩
  · obtain ⟨z, hz, rfl⟩ := List.mem_map.mp hb
    refine ⟨.tup (hl z hz) (.cons (Dp_flat rfl) (.cons (Dp_flat rfl) .nil)), ?_⟩
    show PyData.depth (tieD z.2) ≤ 50
    unfold tieD
    simp [PyData.depth, PyData.depthAll]
  · rw [e2]; exact PySem.W.AllAlike.of fun _ _ => by simp [PySem.W.alike, PySem.W.alikeAll, tieD]
  · rw [e2]; exact PySem.W.Sortable.tuples (enc := tieD) fun z => ⟨_, _, rfl⟩
  · have e : (l.map fun x => (V.ref x.1, tieD x.2)).mergeSort (PySem.W.dataLe false (·.2)) = (l.mergeSort fun x y => leP x.2 y.2).map fun x => (V.ref x.1, tieD x.2) := by
      refine (List.map_mergeSort fun a _ b _ => ?_).symm
      exact (dataLe_tie a.2 b.2).symm
    have e3 : (l.mergeSort fun x y => leP x.2 y.2).map (·.2) = sortP (l.map (·.2)) := List.map_mergeSort fun a _ b _ => rfl
    rw [e, List.map_map]
    have := q p ((l.mergeSort fun x y => leP x.2 y.2).map (·.1)) hp (fun R hR => by
      rw [← e3]
      exact paired_of fun x hx => paired_mem hR x (List.mem_mergeSort.mp hx))
    rw [List.map_map] at this
    exact this
end
end Hw

set_option Elab.async false
set_option linter.all false
set_option maxRecDepth 100000
set_option maxHeartbeats 4000000
namespace Hw
open PySem L2 PyProof.Rows
def topS (i : Nat) : Stmt := PySem.Challenge.pw_healedwebs_k39_what_breakers_refuse.main.body.getD i (.Pass ⟨0, 0, 0, 0⟩)
abbrev sPot : Stmt := topS 57
abbrev sTake : Stmt := topS 58
abbrev sOf : Stmt := topS 59
abbrev sCells : Stmt := topS 60
section
variable {P : Program} {w : World} {K : PySem.W.Frag} {mg : Str → Option Value} {base : Heap}
theorem scPot : FnScope ["script", "place", "cell", "own", "small"] ["script", "place"] (defScope sPot) := ⟨rfl, rfl, rfl, by decide +kernel, rfl, by decide +kernel, by decide +kernel⟩
theorem scTake : FnScope ["pot", "upto", "digit", "prime", "blend"] ["pot", "upto"] (defScope sTake) := ⟨rfl, rfl, rfl, by decide +kernel, rfl, by decide +kernel, by decide +kernel⟩
theorem scOf : FnScope ["pot", "some"] ["pot", "some"] (defScope sOf) := ⟨rfl, rfl, rfl, by decide +kernel, rfl, by decide +kernel, by decide +kernel⟩
theorem scCells : FnScope ["script", "most"] ["script", "most"] (defScope sCells) := ⟨rfl, rfl, rfl, by decide +kernel, rfl, by decide +kernel, by decide +kernel⟩
theorem b01 (b : Prop) [Decidable b] : -(2 ^ 64) < (if b then (1 : Int) else 0) ∧ (if b then (1 : Int) else 0) < 2 ^ 64 := by
  split <;> exact ⟨by decide, by decide⟩
/-- names of the built-ins -/
structure Blt (mg : Str → Option Value) : Prop where
  len : mg "len" = none
  sum : mg "sum" = none
  int : mg "int" = none
  abs : mg "abs" = none
  list : mg "list" = none
  range : mg "range" = none
  max : mg "max" = none
  min : mg "min" = none
theorem ok_pot {f : Addr} {fd : FuncData} {k : Nat} (F : Fun K "_law_pot" "_law_pot" sPot f fd) (B : Blt mg) : FnOk P w K mg base CX0 (k + 1) f fd ["script", "place"] (spPot K) := by
  refine F.ok scPot (fun vs H Q E h => ?_) (fun cdv A outer s H vs Q E hr h => ?_)
  · obtain ⟨a, ns, i, rfl, _⟩ := h
    rfl
  · obtain ⟨a, ns, i, rfl, hS, hlen, h0, h1, q⟩ := h
    refine ⟨_, Evl.pss_cut (ps_set (i := 2) scPot.nd rfl (.inl rfl) (pe_ifExp (pt_cmpR op_lt (pv 1) (pe_callB call_len_seq (by rfl) B.len PySem.boot_len (pa_cons (pv 0) pa_nil)) (nomark _))
        (pe_ix ix_list (pv 0) (pv 1) (fun _ _ => rfl))
        (pe_op op_add (pe_op op_add (pe_op op_mod (pe_callB (cr_sum rfl) (by rfl) B.sum PyProof.Rows.boot_sum (pa_cons (pe_slice sl_list (pv 0) po_none (po_some pe_int)) pa_nil)) pe_int) (pe_op op_mul pe_int (pv 1))) pe_int)))
      (pss_cons (ps_set (i := 3) scPot.nd rfl (.inl rfl) (pe_op op_mul (pe_op op_mod (pe_callTy call_int1 (by rfl) B.int PyProof.Rows.boot_int (pa_cons (pe_callB call_abs (by rfl) B.abs PyProof.Rows.boot_abs (pa_cons (pv 2) pa_nil)) pa_nil))
          (pe_op op_powW (pe_op op_powW pe_int pe_int) pe_int))
          (pe_callTy call_int1 (by rfl) B.int PyProof.Rows.boot_int (pa_cons (pe_cmpR op_ge (pe_callB call_abs (by rfl) B.abs PyProof.Rows.boot_abs (pa_cons (pv 2) pa_nil)) (pe_op op_powW pe_int pe_int) (nomark _)) pa_nil))))
      (pss_cons (ps_set (i := 4) scPot.nd rfl (.inl rfl) (pe_op op_mod (pe_callTy call_int1 (by rfl) B.int PyProof.Rows.boot_int (pa_cons (pv 2) pa_nil)) pe_int))
      (pss_one (ps_ret (pe_lst (pa_cons (pv 3) (pa_cons (pe_op op_mod (pe_callTy call_int1 (by rfl) B.int PyProof.Rows.boot_int (pa_cons
        (pe_op op_add (pe_op op_add (pe_op op_mul (pv 4) pe_int) (pe_op op_mul (pe_op op_mul pe_int (pv 1)) (pv 1))) pe_int) pa_nil)) pe_int) (pa_cons pe_int pa_nil)))))))), ?_⟩
    -- the cell: any int, whatever the way
    refine ⟨fun σ' H' => ∃ c : Int, σ' = [some (.ref a), some (.int i), some (.int c), none, none] ∧ Same H H', ?_, ?_⟩
    · refine ⟨_, rfl, .ref a, rfl, a, ns.map V.int, rfl, .inl hS, _, _, rfl, rfl, _, rfl, ite2 (fun e => ?_) (fun e => ?_)⟩
      · have e' : i < (ns.map V.int).length := of_decide_eq_true e
        obtain ⟨j, rfl⟩ : ∃ j : Nat, i = (j : Int) := ⟨i.toNat, by omega⟩
        have hj : j < ns.length := by rw [List.length_map] at e'; omega
        refine ⟨.ref a, rfl, .int (j : Int), rfl, a, _, _, .int ns[j], rfl, rfl, hS, atI_nat (j := j) ?_, ns[j], rfl, Same.refl H⟩
        rw [List.getElem?_map, List.getElem?_eq_getElem hj]; rfl
      · refine ⟨.ref a, rfl, 1, rfl, a, _, rfl, hS, fun c nc => ?_⟩
        have s1 : Same H (upd H c (.lst (cutV (ns.map V.int) none (some 1)))) := same_upd nc
        have ec : cutV (ns.map V.int) none (some 1) = (ns.take 1).map V.int := by
          unfold cutV
          rw [show HT.sIx (ns.map V.int).length (ns.map V.int).length (some 1) = min 1 (ns.map V.int).length from HT.sIx_nat _ _ 1, HT.sIx_none]
          rw [List.length_map, List.drop_zero, Nat.sub_zero, List.map_take]
          rw [List.take_eq_take_iff, List.length_map]; omega
        refine ⟨c, ns.take 1, rfl, sql_of (by rw [upd_same, ec]), ?_⟩
        refine ⟨_, _, rfl, rfl, (by show (0 : Int) < 1000003; decide), .int i, rfl, _, _, rfl, rfl, .inl ⟨by decide, by decide⟩, _, _, rfl, rfl, _, _, rfl, rfl, _, rfl, s1⟩
    · rintro σ' H1 ⟨c, rfl, s1⟩
      refine ⟨.int c, rfl, c, rfl, .inl ⟨_, rfl, _, _, rfl, rfl, ⟨by decide, by decide +kernel⟩, _, _, rfl, rfl, ⟨by decide, by decide +kernel⟩, _, _, rfl, rfl, (by show (0 : Int) < ((10 : Int) ^ Int.toNat 60) ^ Int.toNat 5; decide +kernel), ?_⟩⟩
      refine ⟨.int c, rfl, c, rfl, _, _, rfl, rfl, ⟨by decide, by decide +kernel⟩, _, _, rfl, rfl, .inr ⟨_, rfl, _, _, rfl, rfl, .inr ?_, ?_⟩⟩
      · exact b01 _
      have own0 : ∀ (x m : Int) (b : Prop) [Decidable b], m ≠ 0 → 0 ≤ x % m * (if b then 1 else 0) := fun x m b _ hm => Int.mul_nonneg (Int.emod_nonneg _ hm) (by split <;> decide)
      refine ⟨.int c, rfl, .inl ⟨_, rfl, _, _, rfl, rfl, (by show (0 : Int) < 2305843009213693951; decide), ?_⟩⟩
      have e0 := Int.emod_nonneg c (show (2305843009213693951 : Int) ≠ 0 by decide)
      have e1 := Int.emod_lt_of_pos c (show (0 : Int) < 2305843009213693951 by decide)
      refine ⟨_, rfl, .int (c % 2305843009213693951), rfl, _, _, rfl, rfl, .inl ⟨by omega, by omega⟩, .int i, rfl, _, _, rfl, rfl, .inl ⟨by decide, by decide⟩, .int i, rfl, _, _, rfl, rfl, .inr ⟨by omega, by omega⟩,
        _, _, rfl, rfl, _, _, rfl, rfl, .inl ⟨_, rfl, _, _, rfl, rfl, (by show (0 : Int) < 2305843009213693921; decide), by show 3 ≤ sizeLine; decide, fun p hp => ?_⟩⟩
      refine q p _ (s1.trans (same_upd hp)) (s1.free hp) ⟨⟨_, _, _, upd_same, own0 _ _ _ (by decide +kernel), Int.emod_nonneg _ (by decide), ?_, by decide, by decide⟩⟩
      exact Int.lt_of_lt_of_le (Int.emod_lt_of_pos _ (by decide)) (by decide)
theorem ok_take {f : Addr} {fd : FuncData} {k : Nat} (F : Fun K "_law_take" "_law_take" sTake f fd) (B : Blt mg) : FnOk P w K mg base CX0 (k + 1) f fd ["pot", "upto"] spTake := by
  refine F.ok scTake (fun vs H Q E h => ?_) (fun cdv A outer s H vs Q E hr h => ?_)
  · obtain ⟨a, u, N, rfl, _⟩ := h
    rfl
  · obtain ⟨a, u, N, rfl, hP, hN, hu0, hu1, q⟩ := h
    refine ⟨_, pss_cons (ps_if (pt_cmpR op_gt (pe_ix ix_list (pv 0) pe_int (fun _ _ => rfl)) pe_int (nomark _))
        (pss_cons (ps_set (i := 2) scTake.nd rfl (.inl rfl) (pe_op op_mod (pe_callTy call_int1 (by rfl) B.int PyProof.Rows.boot_int (pa_cons (pe_ix ix_list (pv 0) pe_int (fun _ _ => rfl)) pa_nil)) (pv 1)))
        (pss_cons (ps_asg (pe_op op_fdiv (pe_ix ix_list (pv 0) pe_int (fun _ _ => rfl)) (pv 1)) (pg_sub (pv 0) pe_int set_list))
        (pss_one (ps_ret (pv 2))))) pss_nil)
      (pss_cons (ps_asg (pe_op op_add (pe_ix ix_list (pv 0) pe_int (fun _ _ => rfl)) pe_int) (pg_sub (pv 0) pe_int set_list))
      (pss_cons (ps_set (i := 3) scTake.nd rfl (.inl rfl) (pe_ix ix_list (pe_lst (pa_cons pe_int (pa_cons pe_int (pa_cons pe_int (pa_cons pe_int (pa_cons pe_int pa_nil))))))
          (pe_op op_mod (pe_callTy call_int1 (by rfl) B.int PyProof.Rows.boot_int (pa_cons (pe_ix ix_list (pv 0) pe_int (fun _ _ => rfl)) pa_nil)) pe_int) (fun _ _ => rfl)))
      (pss_cons (ps_set (i := 4) scTake.nd rfl (.inl rfl) (pe_op op_mod (pe_callTy call_int1 (by rfl) B.int PyProof.Rows.boot_int (pa_cons (pe_op op_powW (pe_callTy call_int1 (by rfl) B.int PyProof.Rows.boot_int (pa_cons
          (pe_op op_add (pe_op op_add (pe_ix ix_list (pv 0) pe_int (fun _ _ => rfl)) (pe_op op_mul (pe_op op_mul pe_int (pe_ix ix_list (pv 0) pe_int (fun _ _ => rfl))) (pe_ix ix_list (pv 0) pe_int (fun _ _ => rfl)))) pe_int) pa_nil)) pe_int) pa_nil)) (pv 3)))
      (pss_cons (ps_set (i := 4) scTake.nd rfl (.inl rfl) (pe_op op_mod (pe_callTy call_int1 (by rfl) B.int PyProof.Rows.boot_int (pa_cons (pe_op op_mul (pv 4) (pe_op op_add (pe_op op_mod (pe_callTy call_int1 (by rfl) B.int PyProof.Rows.boot_int (pa_cons (pv 4) pa_nil)) pe_int)
          (pe_op op_mul pe_int (pe_ix ix_list (pv 0) pe_int (fun _ _ => rfl))))) pa_nil)) pe_int))
      (pss_one (ps_ret (pe_op op_mod (pe_callTy call_int1 (by rfl) B.int PyProof.Rows.boot_int (pa_cons (pe_op op_fdiv (pv 4) pe_int) pa_nil)) (pv 1)))))))), ?_⟩
    obtain ⟨x, y, z, e, hx, hy, hy1, hz, hz1⟩ := hP.ex
    have hS : SqL K H a [.int x, .int y, .int z] := sql_of e
    refine ⟨.ref a, rfl, a, _, 0, .int x, rfl, rfl, hS, rfl, _, _, rfl, rfl, _, rfl, ite2 (fun c => ?_) (fun c => ?_)⟩
    · have c' : 0 < x := of_decide_eq_true c
      refine ⟨.ref a, rfl, a, _, 0, .int x, rfl, rfl, hS, rfl, .inl ⟨x, rfl, .int u, rfl, _, _, rfl, rfl, hu0, ?_⟩⟩
      refine ⟨.ref a, rfl, a, _, 0, .int x, rfl, rfl, hS, rfl, .int u, rfl, _, _, rfl, rfl, ⟨hu0, by omega⟩, .ref a, rfl, a, _, 0, 0, rfl, rfl, e, rfl, ?_⟩
      refine ⟨.int (x % u), rfl, ?_⟩
      exact q _ _ (Int.emod_nonneg _ (by omega)) (Int.emod_lt_of_pos _ hu0) ((SameX.refl a H).put) ⟨⟨_, y, z, upd_same, Int.ediv_nonneg hx (by omega), hy, hy1, hz, by omega⟩⟩
    · refine ⟨.ref a, rfl, a, _, 2, .int z, rfl, rfl, hS, rfl, _, _, rfl, rfl, .ref a, rfl, a, _, 2, 2, rfl, rfl, e, rfl, ?_⟩
      have e2 : upd H a (.lst ([V.int x, .int y, .int z].set 2 (.int (z + 1)))) a = some (.lst [.int x, .int y, .int (z + 1)]) := upd_same
      generalize hH2 : upd H a (.lst ([V.int x, .int y, .int z].set 2 (.int (z + 1)))) = H2 at e2 ⊢
      have s2 : SameX a H H2 := by rw [← hH2]; exact (SameX.refl a H).put
      refine ⟨by show 5 ≤ sizeLine; decide, fun p hp => ?_⟩
      have s3 : Same H2 (upd H2 p (.lst [.int 2147483647, .int 2147483629, .int 2147483587, .int 2147483579, .int 2147483563])) := same_upd hp
      have hp1 : (upd H2 p (.lst [.int 2147483647, .int 2147483629, .int 2147483587, .int 2147483579, .int 2147483563])) p = some (.lst [.int 2147483647, .int 2147483629, .int 2147483587, .int 2147483579, .int 2147483563]) := upd_same
      have e3 := s3 _ _ e2
      have s4 := s2.trans (.of s3)
      generalize (upd H2 p (.lst [.int 2147483647, .int 2147483629, .int 2147483587, .int 2147483579, .int 2147483563])) = H3 at s3 hp1 e3 s4 ⊢
      have hS3 : SqL K H3 a [.int x, .int y, .int (z + 1)] := sql_of e3
      refine ⟨.ref a, rfl, a, _, 2, .int (z + 1), rfl, rfl, hS3, rfl, .inl ⟨_, rfl, _, _, rfl, rfl, (by show (0 : Int) < 5; decide), ?_⟩⟩
      have m0 := Int.emod_nonneg (z + 1) (show (5 : Int) ≠ 0 by decide)
      have m1 := Int.emod_lt_of_pos (z + 1) (show (0 : Int) < 5 by decide)
      obtain ⟨pr, hpr, hp0, hp2⟩ : ∃ pr : Int, atI [V.int 2147483647, .int 2147483629, .int 2147483587, .int 2147483579, .int 2147483563] ((z + 1) % 5) = some (.int pr) ∧ 0 < pr ∧ pr < 2 ^ 31 := by
        generalize (z + 1) % 5 = m at m0 m1
        obtain h | h | h | h | h : m = 0 ∨ m = 1 ∨ m = 2 ∨ m = 3 ∨ m = 4 := by omega
        all_goals (subst h; exact ⟨_, rfl, by decide, by decide⟩)
      refine ⟨p, _, _, .int pr, rfl, rfl, sql_of hp1, hpr, ?_⟩
      -- blend
      refine ⟨.ref a, rfl, a, _, 1, .int y, rfl, rfl, hS3, rfl, .ref a, rfl, a, _, 2, .int (z + 1), rfl, rfl, hS3, rfl, _, _, rfl, rfl, .inl ⟨by decide, by decide⟩,
        .ref a, rfl, a, _, 2, .int (z + 1), rfl, rfl, hS3, rfl, _, _, rfl, rfl, .inr ⟨by omega, by omega⟩, _, _, rfl, rfl, _, _, rfl, rfl, .inl ⟨_, rfl, _, _, rfl, rfl, ⟨by decide, ?_⟩, .inl ⟨_, rfl, .int pr, rfl, _, _, rfl, rfl, hp0, ?_⟩⟩⟩
      · have w0 : 0 ≤ (z + 1) * (z + 1) := Int.mul_nonneg (by omega) (by omega)
        have w1 : (z + 1) * (z + 1) ≤ 1073741824 * 1073741824 := Int.mul_le_mul (by omega) (by omega) (by omega) (by omega)
        have hb : Builtin.Int.intBits (y + 98327 * (z + 1) * (z + 1) + 479) ≤ 100 := by
          refine bits_nat ?_
          rw [Int.mul_assoc]
          generalize (z + 1) * (z + 1) = ww at w0 w1
          omega
        omega
      generalize ((y + 98327 * (z + 1) * (z + 1) + 479) ^ Int.toNat 3) = big
      have b0 := Int.emod_nonneg big (show pr ≠ 0 by omega)
      have b1 := Int.emod_lt_of_pos big hp0
      refine ⟨.int (big % pr), rfl, .int (big % pr), rfl, .inl ⟨_, rfl, _, _, rfl, rfl, (by show (0 : Int) < 10093; decide), .ref a, rfl, a, _, 2, .int (z + 1), rfl, rfl, hS3, rfl, _, _, rfl, rfl, .inl ⟨by decide, by decide⟩, _, _, rfl, rfl,
        _, _, rfl, rfl, .inl ⟨by omega, by omega⟩, .inl ⟨_, rfl, _, _, rfl, rfl, (by show (0 : Int) < 2305843009213693907; decide), ?_⟩⟩⟩
      refine ⟨_, rfl, _, _, rfl, rfl, ⟨by decide, by decide⟩, .inl ⟨_, rfl, .int u, rfl, _, _, rfl, rfl, hu0, ?_⟩⟩
      exact q _ _ (Int.emod_nonneg _ (by omega)) (Int.emod_lt_of_pos _ hu0) s4 ⟨⟨x, y, z + 1, e3, hx, hy, hy1, by omega, by omega⟩⟩
theorem ok_of {f fT : Addr} {fd fdT : FuncData} {k : Nat} (F : Fun K "_law_of" "_law_of" sOf f fd) (B : Blt mg) (GT : FnOk P w K mg base CX0 k fT fdT ["pot", "upto"] spTake) (gT : mg "_law_take" = some (.ref fT)) (kT : PySem.W.keepIn K (.ref fT) = true) (bT : Binds K fdT ["pot", "upto"] []) :
    FnOk P w K mg base CX0 (k + 1) f fd ["pot", "some"] (spOf K) := by
  refine F.ok scOf (fun vs H Q E h => ?_) (fun cdv A outer s H vs Q E hr h => ?_)
  · obtain ⟨a, b, xs, N, rfl, _⟩ := h
    rfl
  · obtain ⟨a, b, xs, N, rfl, hP, hN, hS, hab, h0, h1, q⟩ := h
    refine ⟨_, pss_one (ps_ret (pe_ix ix_list (pv 1) (pe_call GT hr (by rfl) gT kT bT .nil pass0 (pa_cons (pv 0) (pa_cons (pe_callB call_len_seq (by rfl) B.len PySem.boot_len (pa_cons (pv 1) pa_nil)) pa_nil))) (fun _ _ => rfl))), ?_⟩
    refine ⟨.ref b, rfl, .ref a, rfl, .ref b, rfl, b, xs, rfl, .inl hS, a, (xs.length : Int), N, rfl, hP, hN, by omega, by omega, fun r H' r0 r1 sx hP' => ?_⟩
    have hj : r.toNat < xs.length := by omega
    have hS' : SqL K H' b xs := by
      rcases hS with (h | ⟨o, h⟩) | h
      · exact .inl (.inl (sx _ _ (Ne.symm hab) h))
      · exact .inl (.inr ⟨o, sx _ _ (Ne.symm hab) h⟩)
      · exact .inr h
    refine ⟨b, xs, r, xs[r.toNat], rfl, rfl, hS', ?_, q r.toNat _ H' (List.getElem?_eq_getElem hj) sx hP'⟩
    exact at_of (j := r.toNat) (by omega) (List.getElem?_eq_getElem hj)
theorem ok_cells {f : Addr} {fd : FuncData} {k : Nat} (F : Fun K "_law_cells" "_law_cells" sCells f fd) (B : Blt mg) : FnOk P w K mg base CX0 (k + 1) f fd ["script", "most"] (spCells K) := by
  refine F.ok scCells (fun vs H Q E h => ?_) (fun cdv A outer s H vs Q E hr h => ?_)
  · obtain ⟨a, xs, m, rfl, _⟩ := h
    rfl
  · obtain ⟨a, xs, m, rfl, hS, hl, h0, h1, q⟩ := h
    refine ⟨_, pss_one (ps_ret (pe_listRg rfl (by rfl) B.list (prg_1 (by rfl) B.range (pe_callB (call_max2 rfl) (by rfl) B.max PyProof.Rows.boot_max (pa_cons pe_int (pa_cons
      (pe_callB (call_min2 rfl) (by rfl) B.min PyProof.Rows.boot_min (pa_cons (pv 1) (pa_cons (pe_callB call_len_seq (by rfl) B.len PySem.boot_len (pa_cons (pv 0) pa_nil)) pa_nil))) pa_nil)))))), ?_⟩
    refine ⟨.int m, rfl, .ref a, rfl, a, xs, rfl, .inl hS, _, _, rfl, _, _, rfl, _, rfl, ?_⟩
    have key : ∀ v : Int, 0 < v → v ≤ m → v ≤ 1000 → RgOk 0 v ∧ ∀ p, H p = none → Q (.ref p) (upd H p (.lst (rgV 0 v))) := fun v v0 v1 v2 => ⟨.of_le (by omega) (by omega) (by omega) (by omega), fun p hp => by
      refine q v.toNat p _ (by omega) (by omega) (same_upd hp) hp ?_
      rw [upd_same]
      unfold rgV
      rw [Int.sub_zero]
      refine congrArg (fun l => some (HO.lst l)) (List.map_congr_left fun i _ => ?_)
      rw [Int.zero_add]⟩
    refine key _ ?_ ?_ ?_
    all_goals (repeat' split) <;> omega
end
end Hw

set_option Elab.async false
set_option linter.all false
set_option maxRecDepth 100000
set_option maxHeartbeats 4000000
namespace Hw
open PySem L2 PyProof.Rows
theorem valV_seen {ns : List Str} (w : Str) : valV (ns.map fun z => ((Sum.inr z : Key), V.bl true)) (Sum.inr w) = if w ∈ ns then some (V.bl true) else none := by
  induction ns with
  | nil => exact valV_nil
  | cons z ns ih =>
    rw [List.map_cons]
    by_cases h : z = w
    · subst h
      rw [valV_pos rfl, if_pos List.mem_cons_self]
    · rw [valV_neg (fun e => h (Sum.inr.inj e)), ih]
      by_cases hm : w ∈ ns
      · rw [if_pos hm, if_pos (List.mem_cons_of_mem _ hm)]
      · rw [if_neg hm, if_neg (fun e => by rcases List.mem_cons.mp e with rfl | e; exact h rfl; exact hm e)]
theorem rs_while {c : TT} {tb u : TS} {D : Ends} {σ : L2.St} {H : Hp} (Pv : L2.St → Hp → Prop) (μ : L2.St → Hp → Nat) (h0 : Pv σ H)
    (hs : ∀ σ H, Pv σ H → ∃ b : Bool, (∀ Q : Bool → Hp → Prop, Q b H → c σ H Q) ∧ (b = true → tb { D with nx := fun σ' H' => Pv σ' H' ∧ μ σ' H' < μ σ H, ct := fun σ' H' => Pv σ' H' ∧ μ σ' H' < μ σ H, bk := u D } σ H) ∧ (b = false → u D σ H)) :
    tSeq (tWhile c tb) u D σ H := by
  refine ⟨fun m σ H => m = μ σ H ∧ Pv σ H, ⟨_, rfl, h0⟩, ?_⟩
  rintro m σ H ⟨rfl, p⟩
  obtain ⟨b, hc, h1, h2⟩ := hs σ H p
  refine hc _ ?_
  cases b with
  | true => exact ⟨_, fun σ' H' ⟨p', l⟩ => ⟨_, l, rfl, p'⟩, h1 rfl⟩
  | false => exact h2 rfl
def at7 (σ : L2.St) : Nat := match σ[7]? with
  | some (some (V.int k)) => (400 - k).toNat
  | _ => 0
theorem cut2 (w : Str) : cutS w (some 2) none = SL (w.cps.toList.drop 2) := by
  unfold cutS SL
  rw [show HT.sIx w.length 0 (some 2) = min 2 w.length from HT.sIx_nat w.length 0 2, HT.sIx_none]
  refine congrArg (fun l : List Nat => (⟨l.toArray⟩ : Str)) ?_
  rw [len_cps]
  have e : w.cps.toList.drop (min 2 w.cps.toList.length) = w.cps.toList.drop 2 := by
    by_cases h : 2 ≤ w.cps.toList.length
    · rw [Nat.min_eq_left h]
    · rw [Nat.min_eq_right (by omega), List.drop_of_length_le (Nat.le_refl _), List.drop_of_length_le (by omega)]
  rw [e]
  refine List.take_of_length_le ?_
  rw [List.length_drop]; omega
theorem cand_succ (w : Str) (k : Nat) : (SL [97 + k / 26] ++ SL [97 + k % 26]) ++ cutS (cand w k) (some 2) none = cand w (k + 1) := by
  refine str_ext ?_
  rw [app_cps, app_cps, cut2, cand_drop]; rfl
def wordsD : List V := [.str "places", .str "tie", .str "come", .str "die", .str "ring", .str "all", .str "least"]
theorem words_nm : ∀ v ∈ wordsD, ∃ z, v = V.str z ∧ Nm z := by
  intro v hv
  simp only [wordsD, List.mem_cons, List.not_mem_nil, or_false] at hv
  rcases hv with rfl | rfl | rfl | rfl | rfl | rfl | rfl <;> exact ⟨_, rfl, by decide +kernel⟩
def fewD : List V := [.int 0, .int 1, .int 1, .int 2, .int 7]
theorem few_int : ∀ v ∈ fewD, ∃ x : Nat, v = V.int (x : Int) ∧ x ≤ 7 := by
  intro v hv
  simp only [fewD, List.mem_cons, List.not_mem_nil, or_false] at hv
  rcases hv with rfl | rfl | rfl | rfl | rfl
  · exact ⟨0, rfl, by decide⟩
  · exact ⟨1, rfl, by decide⟩
  · exact ⟨1, rfl, by decide⟩
  · exact ⟨2, rfl, by decide⟩
  · exact ⟨7, rfl, by decide⟩
/-- one of the signs of a text, or of the items of a list -/
def spOfS : Sp := fun vs H Q _ => ∃ (a : Addr) (z : Str) (N : Nat), vs = [.ref a, .str z] ∧ Pot H a N ∧ N < 1000000000 ∧ 0 < z.length ∧ z.length < 1000 ∧ ∀ c H', c ∈ z.cps.toList → SameX a H H' → Pot H' a (N + 1) → Q (.str (SL [c])) H'
def spOf2 (K : PySem.W.Frag) : Sp := fun vs H Q E => spOf K vs H Q E ∨ spOfS vs H Q E
/-- many unlike names -/
def spNames : Sp := fun vs H Q _ => ∃ (a : Addr) (m N : Nat), vs = [.ref a, .int m] ∧ Pot H a N ∧ N + 11 * m < 900000000 ∧ m ≤ 300 ∧
  ∀ p (ns : List Str) H', ns.length = m → ns.Nodup → (∀ z ∈ ns, Nm z) → SameX a H H' → H p = none → H' p = some (.lst (ns.map V.str)) → Pot H' a (N + 11 * m) → Q (.ref p) H'
section
variable {P : Program} {w : World} {K : PySem.W.Frag} {mg : Str → Option Value} {base : Heap}
theorem ok_of2 {f fT : Addr} {fd fdT : FuncData} {k : Nat} (F : Fun K "_law_of" "_law_of" sOf f fd) (B : Blt mg) (GT : FnOk P w K mg base CX0 k fT fdT ["pot", "upto"] spTake) (gT : mg "_law_take" = some (.ref fT)) (kT : PySem.W.keepIn K (.ref fT) = true) (bT : Binds K fdT ["pot", "upto"] []) :
    FnOk P w K mg base CX0 (k + 1) f fd ["pot", "some"] (spOf2 K) := by
  refine F.ok scOf (fun vs H Q E h => ?_) (fun cdv A outer s H vs Q E hr h => ?_)
  · rcases h with h | h
    · obtain ⟨a, b, xs, N, rfl, _⟩ := h
      rfl
    · obtain ⟨a, z, N, rfl, _⟩ := h
      rfl
  · refine ⟨_, pss_one (ps_ret (pe_ix (ix_list.or ix_str) (pv 1) (pe_call GT hr (by rfl) gT kT bT .nil pass0 (pa_cons (pv 0) (pa_cons (pe_callB (call_len_seq.or call_len_str) (by rfl) B.len PySem.boot_len (pa_cons (pv 1) pa_nil)) pa_nil))) (fun _ _ => rfl))), ?_⟩
    rcases h with ⟨a, b, xs, N, rfl, hP, hN, hS, hab, h0, h1, q⟩ | ⟨a, z, N, rfl, hP, hN, h0, h1, q⟩
    · refine ⟨.ref b, rfl, .ref a, rfl, .ref b, rfl, .inl ⟨b, xs, rfl, .inl hS, a, (xs.length : Int), N, rfl, hP, hN, by omega, by omega, fun r H' r0 r1 sx hP' => ?_⟩⟩
      have hj : r.toNat < xs.length := by omega
      have hS' : SqL K H' b xs := by
        rcases hS with (h | ⟨o, h⟩) | h
        · exact .inl (.inl (sx _ _ (Ne.symm hab) h))
        · exact .inl (.inr ⟨o, sx _ _ (Ne.symm hab) h⟩)
        · exact .inr h
      refine .inl ⟨b, xs, r, xs[r.toNat], rfl, rfl, hS', ?_, q r.toNat _ H' (List.getElem?_eq_getElem hj) sx hP'⟩
      exact at_of (j := r.toNat) (by omega) (List.getElem?_eq_getElem hj)
    · refine ⟨.str z, rfl, .ref a, rfl, .str z, rfl, .inr ⟨z, rfl, Nat.le_of_lt (small1000 (by omega)), a, (z.length : Int), N, rfl, hP, hN, by omega, by omega, fun r H' r0 r1 sx hP' => ?_⟩⟩
      have hj : r.toNat < z.cps.toList.length := by rw [← len_cps]; omega
      refine .inr ⟨z, r, z.cps.toList[r.toNat], rfl, rfl, Nat.le_of_lt (small1000 (by omega)), ?_, q _ H' (List.getElem_mem hj) sx hP'⟩
      have hh := atI_nat (List.getElem?_eq_getElem hj)
      rw [Int.toNat_of_nonneg r0] at hh
      exact hh
theorem lc_range {g : TG} {tt : TT} {te : TE} {vs : List Nat} {σ : L2.St} {H1 : Hp} {D : Addr} {Qd : Hp → Prop} (n : Nat) (Pv : Nat → Hp → Prop) (h0 : Pv 0 (upd H1 D (.lst [])))
    (hs : ∀ i H, i < n → Pv i H → g (.int (0 + (i : Int))) (wipe σ vs) H fun σ2 H2 => wipe σ2 vs = wipe σ vs ∧ tt σ2 H2 fun b H3 => if b = true then te σ2 H3 fun y H4 => ∃ acc, H4 D = some (.lst acc) ∧ acc.length < sizeLine ∧ Pv (i + 1) (upd H4 D (.lst (acc ++ [y]))) else Pv (i + 1) H3)
    (hd : ∀ H, Pv n H → Qd H) : ∃ W : Nat → Nat → Hp → Prop, (∃ m, W 0 m (upd H1 D (.lst []))) ∧ ∀ i m H, W i m H →
      ((Itr 0 n).stop i H ∧ Qd H) ∨ ((Itr 0 n).go i H ∧ ∃ Nx : Hp → Prop, (∀ H', Nx H' → ∃ m', m' < m ∧ W (i + 1) m' H') ∧ ∀ x H', (Itr 0 n).yld i H x H' → g x (wipe σ vs) H' fun σ2 H2 => wipe σ2 vs = wipe σ vs ∧ tt σ2 H2 fun b H3 =>
        if b = true then te σ2 H3 fun y H4 => ∃ acc, H4 D = some (.lst acc) ∧ acc.length < sizeLine ∧ Nx (upd H4 D (.lst (acc ++ [y]))) else Nx H3) :=
  lc_it (walk_range (lo := 0) (n := n)) Pv h0 (fun _ _ _ _ => trivial) (fun i x H H' hi hp ⟨e1, e2⟩ => by subst e1 e2; exact hs i _ hi hp) hd
def nN : List Str := ["pot", "many", "signs", "found", "known", "lap", "word", "at", "sign"]
end
end Hw

set_option Elab.async false
set_option linter.all false
set_option maxRecDepth 100000
set_option maxHeartbeats 4000000
namespace Hw
open PySem L2 PyProof.Rows
def tieOf (a b : Str) : Tie := (if strLt b a = true then b else a, if strLt a b = true then b else a)
def spTie : Sp := fun vs H Q _ => ∃ a b : Str, vs = [.str a, .str b] ∧ ∀ p, H p = none → Q (.ref p) (upd H p (.tup [.str (tieOf a b).1, .str (tieOf a b).2]))
section
variable {P : Program} {w : World} {K : PySem.W.Frag} {mg : Str → Option Value} {base : Heap}
def encT (ts : List Tie) : List (List Key × V) := ts.map fun t => (([Sum.inr t.1, Sum.inr t.2] : List Key), V.bl true)
theorem encT_any (ts : List Tie) (t : Tie) : ((encT ts).any fun kv => decide (kv.1 = ([Sum.inr t.1, Sum.inr t.2] : List Key))) = decide (t ∈ ts) := by
  rw [encT, List.any_map, Bool.eq_iff_iff, List.any_eq_true, decide_eq_true_iff]
  constructor
  · rintro ⟨u, hu, e⟩
    have e' := of_decide_eq_true e
    injection e' with e1 e2
    injection e2 with e2 _
    injection e1 with e1
    injection e2 with e2
    exact (show u = t from Prod.ext e1 e2) ▸ hu
  · intro h
    exact ⟨t, h, decide_eq_true rfl⟩
theorem putT_tie (ts : List Tie) (t : Tie) : putK (encT ts) ([Sum.inr t.1, Sum.inr t.2] : List Key) (V.bl true) = encT (if t ∈ ts then ts else ts ++ [t]) := by
  unfold putK
  rw [encT_any]
  by_cases h : t ∈ ts
  · rw [if_pos (decide_eq_true h), if_pos h]
    unfold encT
    rw [List.map_map]
    refine List.map_congr_left fun u _ => ?_
    show (if _ then _ else _) = _
    split <;> rfl
  · rw [if_neg (by simpa using h), if_neg h]
    unfold encT
    rw [List.map_append]; rfl
theorem tieOf_lt {u v : Str} (h : u ≠ v) : strLt (tieOf u v).1 (tieOf u v).2 = true ∧ ((tieOf u v).1 = u ∨ (tieOf u v).1 = v) ∧ ((tieOf u v).2 = u ∨ (tieOf u v).2 = v) := by
  unfold tieOf
  cases e1 : strLt v u with
  | true =>
    rw [strLt_as e1]
    exact ⟨by simpa using e1, .inr (by simp), .inl (by simp)⟩
  | false =>
    cases e2 : strLt u v with
    | true => exact ⟨by simpa using e2, .inl (by simp), .inr (by simp)⟩
    | false => exact absurd (strLt_tri e2 e1) h
/-- a drawn web while it is drawn: its places at pl, its ties in the dict at d -/
def WB (a pl d : Addr) (ns : List Str) (H0 : Hp) (N c : Nat) (H : Hp) : Prop := SameX a H0 H ∧ Pot H a N ∧ H pl = some (.lst (ns.map V.str)) ∧ pl ≠ d ∧ pl ≠ a ∧ d ≠ a ∧ ∃ ts : List Tie, H d = some (.dT (encT ts)) ∧ ts.Nodup ∧ (∀ t ∈ ts, t.1 ∈ ns ∧ t.2 ∈ ns ∧ strLt t.1 t.2 = true) ∧ ts.length ≤ c
theorem WB.step {a pl d : Addr} {ns : List Str} {H0 H H' : Hp} {N N' c : Nat} (w : WB a pl d ns H0 N c H) (s : SameX a H H') (p : Pot H' a N') : WB a pl d ns H0 N' c H' := by
  obtain ⟨sx, hp, h1, n1, n2, n3, ts, h2, hr⟩ := w
  exact ⟨sx.trans s, p, s _ _ n2 h1, n1, n2, n3, ts, s _ _ n3 h2, hr⟩
theorem WB.mono {a pl d : Addr} {ns : List Str} {H0 H : Hp} {N N' c c' : Nat} (w : WB a pl d ns H0 N c H) (hN : N ≤ N') (hc : c ≤ c') : WB a pl d ns H0 N' c' H := by
  obtain ⟨sx, hp, h1, n1, n2, n3, ts, h2, h3, h4, h5⟩ := w
  exact ⟨sx, hp.mono hN, h1, n1, n2, n3, ts, h2, h3, h4, Nat.le_trans h5 hc⟩
theorem put_tie {a pl d : Addr} {ns : List Str} {H0 H : Hp} {N c : Nat} {u v : Str} {E : XK} {Q : Hp → Prop} (w : WB a pl d ns H0 N c H) (hd0 : H0 d = none) (hc : c ≤ 1000) (hu : u ∈ ns) (hv : v ∈ ns) (hne : u ≠ v)
    (q : ∀ Hn, WB a pl d ns H0 N (c + 1) Hn → Q Hn) : spTie [.str u, .str v] H (fun k H1 => ∃ d' Hn, V.ref d = .ref d' ∧ DPut H1 d' k (.bl true) Hn ∧ Q Hn) E := by
  obtain ⟨sx, hp, h1, n1, n2, n3, ts, h2, h3, h4, h5⟩ := w
  refine ⟨u, v, rfl, fun p hp0 => ?_⟩
  have npd : d ≠ p := ne_of_none h2 hp0
  have ed : (upd H p (.tup [.str (tieOf u v).1, .str (tieOf u v).2])) d = some (.dT (encT ts)) := by rw [upd_ne npd]; exact h2
  have et : (upd H p (.tup [.str (tieOf u v).1, .str (tieOf u v).2])) p = some (.tup (([Sum.inr (tieOf u v).1, Sum.inr (tieOf u v).2] : List Key).map kV)) := upd_same
  refine ⟨d, _, rfl, DPut.t ed et (by rw [encT, List.length_map]; exact small1000 (by omega)), q _ ?_⟩
  rw [putT_tie]
  obtain ⟨l1, l2, l3⟩ := tieOf_lt hne
  have m1 : (tieOf u v).1 ∈ ns := by rcases l2 with e | e <;> rw [e] <;> assumption
  have m2 : (tieOf u v).2 ∈ ns := by rcases l3 with e | e <;> rw [e] <;> assumption
  refine ⟨fun b o hb e => ?_, ?_, ?_, n1, n2, n3, _, upd_same, ?_, ?_, ?_⟩
  · have e1 : b ≠ d := ne_of_none e hd0
    have e2 := sx _ _ hb e
    rw [upd_ne e1, upd_ne (ne_of_none e2 hp0)]
    exact e2
  · obtain ⟨xx, yy, zz, e, hh⟩ := hp.ex
    exact ⟨xx, yy, zz, by rw [upd_ne (Ne.symm n3), upd_ne (ne_of_none e hp0)]; exact e, hh⟩
  · rw [upd_ne n1, upd_ne (ne_of_none h1 hp0)]; exact h1
  · by_cases hm : tieOf u v ∈ ts
    · rw [if_pos hm]; exact h3
    · rw [if_neg hm, List.nodup_append]
      exact ⟨h3, by simp, fun x hx y hy e => hm (by rw [List.mem_singleton.mp hy] at e; exact e ▸ hx)⟩
  · intro t ht
    by_cases hm : tieOf u v ∈ ts
    · rw [if_pos hm] at ht; exact h4 t ht
    · rw [if_neg hm] at ht
      rcases List.mem_append.mp ht with ht | ht
      · exact h4 t ht
      · rw [List.mem_singleton.mp ht]; exact ⟨m1, m2, l1⟩
  · by_cases hm : tieOf u v ∈ ts
    · rw [if_pos hm]; omega
    · rw [if_neg hm, List.length_append]
      show ts.length + 1 ≤ c + 1
      omega
end
end Hw

set_option Elab.async false
set_option linter.all false
set_option maxRecDepth 100000
set_option maxHeartbeats 4000000
namespace Hw
open PySem L2 PyProof.Rows
structure OwnW (ns : List Str) (ts : List Tie) : Prop where
  asc : Asc ns
  nm : ∀ z ∈ ns, Nm z
  few : ns.length ≤ 200
  tasc : AscP ts
  tie : ∀ t ∈ ts, t.1 ∈ ns ∧ t.2 ∈ ns ∧ strLt t.1 t.2 = true
  tfew : ts.length ≤ 1000
def WebAt (H : Hp) (p : Addr) (ns : List Str) (ts : List Tie) : Prop := ∃ (pl tl : Addr) (qs : List Addr), H p = some (.tup [.ref pl, .ref tl]) ∧ H pl = some (.lst (ns.map V.str)) ∧ H tl = some (.lst (qs.map V.ref)) ∧ Paired (fun q (t : Tie) => H q = some (.tup [.str t.1, .str t.2])) qs ts
theorem at_ns {ns : List Str} {r : Int} {j : Nat} (e : r = (j : Int)) (h : j < ns.length) : atI (ns.map V.str) r = some (.str ns[j]) := by
  subst e
  exact atI_nat (by rw [List.getElem?_map, List.getElem?_eq_getElem h]; rfl)
theorem at_last {ns : List Str} (h : 0 < ns.length) : atI (ns.map V.str) (-1) = some (.str (ns[ns.length - 1]'(by omega))) := by
  have hne : ns ≠ [] := fun e => by rw [e] at h; exact absurd h (by decide)
  have e1 : ns.map V.str = ns.dropLast.map V.str ++ [V.str (ns.getLast hne)] := by
    rw [← List.map_singleton, ← List.map_append, List.dropLast_concat_getLast]
  rw [e1, atI_last, List.getLast_eq_getElem]
theorem paired_mono {α β : Type} {F G : α → β → Prop} (h : ∀ x y, F x y → G x y) : ∀ {xs : List α} {ys : List β}, Paired F xs ys → Paired G xs ys
  | _, _, .nil => .nil
  | _, _, .cons a t => .cons (h _ _ a) (paired_mono h t)
theorem nodup_ne {ns : List Str} (h : ns.Nodup) {i j : Nat} (hi : i < ns.length) (hj : j < ns.length) (hij : i < j) : ns[i] ≠ ns[j] := List.pairwise_iff_getElem.mp h i j hi hj hij
theorem if_any {t : TT} {A B : TS} {D : Ends} {σ : L2.St} {H : Hp} (ht : ∀ Q : Bool → Hp → Prop, Q true H → Q false H → t σ H Q) (h1 : A D σ H) (h2 : B D σ H) : tIfS t A B D σ H :=
  ht _ (show if true = true then A D σ H else B D σ H by rw [if_pos rfl]; exact h1) (show if false = true then A D σ H else B D σ H by rw [if_neg Bool.false_ne_true]; exact h2)
theorem rs_rng {wi : TI} {g : TG} {tb u : TS} {D : Ends} {σ : L2.St} {H : Hp} (lo : Int) (n : Nat) (P0 : Hp → Prop) (Pv : Nat → L2.St → Hp → Prop) (hw : ∀ R : It → Hp → Prop, (∀ H1, P0 H1 → R (Itr lo n) H1) → wi σ H R) (h0 : ∀ H1, P0 H1 → Pv 0 σ H1)
    (hs : ∀ i σ H, i < n → Pv i σ H → g (.int (lo + i)) σ H fun σ2 H2 => tb { D with nx := Pv (i + 1), ct := Pv (i + 1), bk := u D } σ2 H2) (hd : ∀ σ H, Pv n σ H → u D σ H) : tSeq (tFor wi g tb) u D σ H :=
  hw _ fun H1 p => for_range (D := { D with nx := u D }) Pv (h0 H1 p) hs hd
theorem rs_if_put {t : TT} {A B u : TS} {D : Ends} {σ : L2.St} {H : Hp} (P1 : Bool → Hp → Prop) (P2 : Hp → Prop) (ht : ∀ Q : Bool → Hp → Prop, (∀ b H', P1 b H' → Q b H') → t σ H Q) (h3 : ∀ H', P2 H' → u D σ H')
    (h1 : ∀ (D' : Ends) H', (∀ H4, P2 H4 → D'.nx σ H4) → P1 true H' → A D' σ H') (h2 : ∀ (D' : Ends) H', (∀ H4, P2 H4 → D'.nx σ H4) → P1 false H' → B D' σ H') : tSeq (tIfS t A B) u D σ H :=
  ht _ fun b H' p => by
    show if b = true then A { D with nx := u D } σ H' else B { D with nx := u D } σ H'
    cases b with
    | true => rw [if_pos rfl]; exact h1 _ H' h3 p
    | false => rw [if_neg Bool.false_ne_true]; exact h2 _ H' h3 p
def sBl : Str := Str.ofString " "
def sNl : Str := Str.ofString "\n"
theorem paired_get {α β : Type} {F : α → β → Prop} : ∀ {xs : List α} {ys : List β} {i : Nat} {x : α}, Paired F xs ys → xs[i]? = some x → ∃ y, ys[i]? = some y ∧ F x y
  | _, _, _, _, .nil, e => by simp at e
  | _, _, 0, _, .cons a _, e => by simp at e; subst e; exact ⟨_, rfl, a⟩
  | _, _, i + 1, y, .cons _ t, e => by
    obtain ⟨x, h1, h2⟩ := paired_get (i := i) t (by simpa using e)
    exact ⟨x, by simpa using h1, h2⟩
theorem join_len (y : Str) : ∀ ps : List Str, (Txt.join y ps).length ≤ (ps.map (·.length)).sum + ps.length * y.length
  | [] => by rw [TL.join_eq]; exact Nat.zero_le _
  | [p] => by rw [TL.join_eq]; simp [Str.join]
  | p :: q :: r => by
    have ih := join_len y (q :: r)
    rw [TL.join_eq] at ih ⊢
    have e : Str.join y (p :: q :: r) = p ++ y ++ Str.join y (q :: r) := rfl
    rw [e, app_len, app_len]
    simp only [List.map_cons, List.sum_cons, List.length_cons] at ih ⊢
    have : (r.length + 1 + 1) * y.length = (r.length + 1) * y.length + y.length := by rw [Nat.add_mul (r.length + 1) 1, Nat.one_mul]
    omega
theorem sum_le {ps : List Str} {b : Nat} (h : ∀ p ∈ ps, p.length ≤ b) : (ps.map (·.length)).sum ≤ ps.length * b := by
  induction ps with
  | nil => exact Nat.zero_le _
  | cons p ps ih =>
    have h1 := h p List.mem_cons_self
    have h2 := ih fun q hq => h q (List.mem_cons_of_mem _ hq)
    rw [List.map_cons, List.sum_cons, List.length_cons, Nat.add_mul, Nat.one_mul]
    omega
def rJn (K : PySem.W.Frag) : V → List V → Hp → VK → Prop := fun x xs H Q => ∃ a p, ∃ ys : List Str, x = .str a ∧ xs = [.ref p] ∧ (SqL K H p (ys.map V.str) ∨ SqT K H p (ys.map V.str)) ∧ (ys.map (·.length)).sum + ys.length * a.length ≤ 16777216 ∧ Q (.str (Txt.join a ys)) H
theorem valV_names {g : Str → V} {ns : List Str} (w : Str) : valV (ns.map fun z => ((Sum.inr z : Key), g z)) (Sum.inr w) = if w ∈ ns then some (g w) else none := by
  induction ns with
  | nil => exact valV_nil
  | cons z ns ih =>
    rw [List.map_cons]
    by_cases h : z = w
    · subst h
      rw [valV_pos rfl, if_pos List.mem_cons_self]
    · rw [valV_neg (fun e => h (Sum.inr.inj e)), ih]
      by_cases hm : w ∈ ns
      · rw [if_pos hm, if_pos (List.mem_cons_of_mem _ hm)]
      · rw [if_neg hm, if_neg (fun e => by rcases List.mem_cons.mp e with rfl | e; exact h rfl; exact hm e)]
theorem mergeK_new : ∀ {more kvs : List (Key × V)}, ((kvs ++ more).map (·.1)).Nodup → mergeK kvs more = kvs ++ more
  | [], kvs, _ => by simp [mergeK]
  | p :: more, kvs, h => by
    have hn : valV kvs p.1 = none := by
      unfold valV
      rw [List.find?_eq_none.mpr]
      · rfl
      · intro q hq hc
        have e := of_decide_eq_true hc
        rw [List.map_append, List.nodup_append] at h
        exact h.2.2 q.1 (List.mem_map.mpr ⟨q, hq, rfl⟩) p.1 (List.mem_map.mpr ⟨p, List.mem_cons_self, rfl⟩) e
    have ih := mergeK_new (more := more) (kvs := kvs ++ [p]) (by rw [List.append_assoc]; exact h)
    show mergeK (putK kvs p.1 p.2) more = _
    rw [putK_new _ hn]
    exact ih.trans (by simp)
abbrev TieL (H : Hp) (q : Addr) (t : Tie) : Prop := H q = some (.tup [.str t.1, .str t.2])
theorem nodup_take {ns : List Str} (h : ns.Nodup) {i : Nat} {x : Str} (hx : ns[i]? = some x) : x ∉ ns.take i := by
  intro hm
  obtain ⟨j, hj, e⟩ := List.mem_iff_getElem.mp hm
  rw [List.length_take] at hj
  obtain ⟨hi, rfl⟩ := List.getElem?_eq_some_iff.mp hx
  rw [List.getElem_take] at e
  exact nodup_ne h (by omega) hi (by omega) e
theorem rs_list {K : PySem.W.Frag} {te : TE} {g : TG} {tb u : TS} {D : Ends} {σ : L2.St} {H : Hp} (a : Addr) (xs : List V) (ha : ∀ Q : VK, Q (.ref a) H → te σ H Q) (Pv : Nat → L2.St → Hp → Prop) (h0 : Pv 0 σ H) (hl : ∀ i σ H, i ≤ xs.length → Pv i σ H → SqL K H a xs)
    (hs : ∀ i x σ H, xs[i]? = some x → Pv i σ H → g x σ H fun σ2 H2 => tb { D with nx := Pv (i + 1), ct := Pv (i + 1), bk := u D } σ2 H2) (hd : ∀ σ H, Pv xs.length σ H → u D σ H) : tSeq (tFor (iList K te) g tb) u D σ H :=
  ha _ ⟨a, rfl, ⟨xs, hl 0 σ H (Nat.zero_le _) h0⟩, for_list (D := { D with nx := u D }) Pv h0 hl hs hd⟩
theorem rs_tup {K : PySem.W.Frag} {te : TE} {g : TG} {tb u : TS} {D : Ends} {σ : L2.St} {H : Hp} (a : Addr) (xs : List V) (ha : ∀ Q : VK, Q (.ref a) H → te σ H Q) (Pv : Nat → L2.St → Hp → Prop) (h0 : Pv 0 σ H) (hl : ∀ i σ H, i ≤ xs.length → Pv i σ H → SqT K H a xs)
    (hs : ∀ i x σ H, xs[i]? = some x → Pv i σ H → g x σ H fun σ2 H2 => tb { D with nx := Pv (i + 1), ct := Pv (i + 1), bk := u D } σ2 H2) (hd : ∀ σ H, Pv xs.length σ H → u D σ H) : tSeq (tFor (iTup K te) g tb) u D σ H :=
  ha _ ⟨a, rfl, ⟨xs, hl 0 σ H (Nat.zero_le _) h0⟩, for_tup (D := { D with nx := u D }) Pv h0 hl hs hd⟩
theorem map_get {α : Type} {g : α → V} {xs : List α} {i : Nat} {x : V} (h : (xs.map g)[i]? = some x) : ∃ z, xs[i]? = some z ∧ x = g z := by
  rw [List.getElem?_map] at h
  cases hh : xs[i]? with
  | none => rw [hh] at h; cases h
  | some z => rw [hh] at h; exact ⟨z, rfl, (Option.some.inj h).symm⟩
theorem take_snoc {α : Type} {xs : List α} {i : Nat} {x : α} (h : xs[i]? = some x) : xs.take (i + 1) = xs.take i ++ [x] := by rw [List.take_succ, h]; rfl
theorem paired_in {α β : Type} {F G : α → β → Prop} : ∀ {xs : List α} {ys : List β}, (∀ x y, y ∈ ys → F x y → G x y) → Paired F xs ys → Paired G xs ys
  | _, _, _, .nil => .nil
  | _, _, h, .cons a t => .cons (h _ _ List.mem_cons_self a) (paired_in (fun x y hy => h x y (List.mem_cons_of_mem _ hy)) t)
theorem paired_map {α β γ : Type} {F : α → γ → Prop} {g : β → γ} : ∀ {xs : List α} {ys : List β}, Paired (fun x y => F x (g y)) xs ys → Paired F xs (ys.map g)
  | _, _, .nil => .nil
  | _, _, .cons a t => .cons a (paired_map t)
theorem paired_snoc {α β : Type} {F : α → β → Prop} {x : α} {y : β} (f : F x y) : ∀ {xs : List α} {ys : List β}, Paired F xs ys → Paired F (xs ++ [x]) (ys ++ [y])
  | _, _, .nil => .cons f .nil
  | _, _, .cons h t => .cons h (paired_snoc f t)
theorem smallM {n : Nat} (h : n ≤ 100000) : n < sizeLine := by rw [sizeLine_eq]; omega
theorem filter_snoc {α : Type} {p : α → Bool} {xs : List α} {i : Nat} {x : α} (h : xs[i]? = some x) : (xs.take (i + 1)).filter p = (xs.take i).filter p ++ if p x = true then [x] else [] := by
  rw [take_snoc h, List.filter_append]
  congr 1
  by_cases hp : p x = true
  · rw [if_pos hp, List.filter_cons_of_pos hp, List.filter_nil]
  · rw [if_neg hp, List.filter_cons_of_neg hp, List.filter_nil]
theorem inV_str (z : Str) (zs : List Str) : inV (.str z) (zs.map V.str) = decide (z ∈ zs) := by
  unfold inV
  rw [List.any_map, Bool.eq_iff_iff, List.any_eq_true, decide_eq_true_iff]
  constructor
  · rintro ⟨y, hy, e⟩
    have e : (y == z) = true := e
    exact (beq_iff_eq.mp e) ▸ hy
  · intro h
    exact ⟨z, h, by show (z == z) = true; simp⟩
theorem rs_t {te : TE} {g : TG} {u : TS} {D : Ends} {σ : L2.St} {H : Hp} (h : te σ H fun x H1 => g x σ H1 (u D)) : tSeq (tAsg te g) u D σ H := h
theorem g2_of {K : PySem.W.Frag} {σ : L2.St} {H : Hp} {i j : Nat} {p : Addr} {x y : V} {R : L2.St → Hp → Prop} (e : SqT K H p [x, y]) (h : R ((σ.set i (some x)).set j (some y)) H) : gTup K 2 (gCons (gName i) (gCons (gName j) gNil)) (.ref p) σ H R :=
  ⟨p, [x, y], rfl, e, rfl, _, [y], rfl, _, [], rfl, rfl, h⟩
abbrev rLenS (K : PySem.W.Frag) : List V → Hp → VK → Prop := fun xs H Q => ∃ p ys, xs = [.ref p] ∧ (SqL K H p ys ∨ SqT K H p ys) ∧ Q (.int ys.length) H
theorem cps_mem {z : Str} {c : Nat} (h : c ∈ z.cps) : c ∈ z.cps.toList := by simpa using h
theorem nm_ok {z : Str} (h : Nm z) : PyData.strOk z = true := by
  unfold PyData.strOk
  refine Array.all_eq_true_iff_forall_mem.mpr fun c hc => ?_
  have := h.2.2 c (cps_mem hc)
  exact decide_eq_true (by omega)
theorem strs_lay {ns : List Str} (hnm : ∀ n ∈ ns, Nm n) : ∀ {xs : List Str}, (∀ x ∈ xs, x ∈ ns) → SeqAt.shaped (.list (xs.map PyData.str)) = true := by
  intro xs h
  have a : ∀ {xs : List Str}, (∀ x ∈ xs, x ∈ ns) → PyData.canLayAll0 (xs.map PyData.str) = true := by
    intro xs
    induction xs with
    | nil => intro _; rfl
    | cons x xs ih =>
      intro h
      show PyData.canLayAll0 (PyData.str x :: xs.map PyData.str) = true
      rw [PyData.canLayAll0, ih fun y hy => h y (List.mem_cons_of_mem _ hy), PyData.canLay0, nm_ok (hnm x (h x List.mem_cons_self))]; rfl
  have b : ∀ xs : List Str, PyData.depthAll (xs.map PyData.str) = 0 := by
    intro xs
    induction xs with
    | nil => rfl
    | cons x xs ih =>
      show PyData.depthAll (PyData.str x :: xs.map PyData.str) = 0
      rw [PyData.depthAll, ih, PyData.depth]; rfl
  unfold SeqAt.shaped
  rw [PyData.canLay0, a h, PyData.depth, b]; rfl
theorem strs_dp {K : PySem.W.Frag} {H : Hp} : ∀ xs : List Str, DpAll K H (xs.map V.str) (xs.map PyData.str)
  | [] => .nil
  | x :: xs => .cons (.str x) (strs_dp xs)
theorem rs_no {t : TT} {A u : TS} {D : Ends} {σ : L2.St} {H : Hp} (h : t σ H fun b H1 => if b = true then A { D with nx := u D } σ H1 else u D σ H1) : tSeq (tIfS t A tNext) u D σ H := h
theorem rs_no2 {t : TT} {A u : TS} {D : Ends} {σ : L2.St} {H : Hp} (R1 R2 : Hp → Prop) (ht : ∀ Q : Bool → Hp → Prop, (∀ H', R1 H' → Q true H') → (∀ H', R2 H' → Q false H') → t σ H Q) (h1 : ∀ H', R1 H' → A { D with nx := u D } σ H') (h2 : ∀ H', R2 H' → u D σ H') : tSeq (tIfS t A tNext) u D σ H :=
  rs_no (ht _ (fun H' r => by show if true = true then _ else _; rw [if_pos rfl]; exact h1 H' r) (fun H' r => by show if false = true then _ else _; rw [if_neg Bool.false_ne_true]; exact h2 H' r))
theorem rs_unV {K : PySem.W.Frag} {u : TS} {D : Ends} {σ : L2.St} {H : Hp} {k i j : Nat} {p : Addr} {x y : V} (h : σ[k]? = some (some (.ref p))) (e : SqT K H p [x, y]) (hu : u D ((σ.set i (some x)).set j (some y)) H) : tSeq (tAsg (tVar k) (gTup K 2 (gCons (gName i) (gCons (gName j) gNil)))) u D σ H :=
  ⟨.ref p, h, p, [x, y], rfl, e, rfl, _, [y], rfl, _, [], rfl, rfl, hu⟩
theorem r_cb {ta : TA} {r : List V → Hp → VK → Prop} {σ : L2.St} {H : Hp} {Q : VK} (h : ta σ H fun vs H1 => r vs H1 Q) : tCB r ta σ H Q := h
theorem rs_par3 {i j l : Nat} {ta : TA} {u : TS} {D : Ends} {σ : L2.St} {H : Hp} (h : ta σ H fun vs H1 => ∃ x y z, vs = [x, y, z] ∧ u D (((σ.set i (some x)).set j (some y)).set l (some z)) H1) : tSeq (tPar3 i j l ta) u D σ H := h
theorem pot_ne_refs {H : Hp} {a l : Addr} {N : Nat} {qs : List Addr} (h : Pot H a N) (e : H l = some (.lst (qs.map V.ref))) : a ≠ l := by
  rintro rfl
  obtain ⟨x, y, z, e', _⟩ := h.ex
  rw [e] at e'
  cases qs with
  | nil => cases e'
  | cons q qs => cases e'
theorem pot_ne_strs {H : Hp} {a l : Addr} {N : Nat} {zs : List Str} (h : Pot H a N) (e : H l = some (.lst (zs.map V.str))) : a ≠ l := by
  rintro rfl
  obtain ⟨x, y, z, e', _⟩ := h.ex
  rw [e] at e'
  cases zs with
  | nil => cases e'
  | cons q qs => cases e'
theorem pot_tup {H : Hp} {a b : Addr} {N : Nat} {k : List V} (h : Pot H a N) (e : H b = some (.tup k)) : b ≠ a := by
  rintro rfl
  obtain ⟨u, v, w, e1, _⟩ := h.ex
  rw [e1] at e; cases e
theorem TieL.sx {H H' : Hp} {a q : Addr} {N : Nat} {t : Tie} (hP : Pot H a N) (s : SameX a H H') (e : TieL H q t) : TieL H' q t := s _ _ (pot_tup hP e) e
theorem paired_ix2 {α β : Type} {F : α → β → Prop} : ∀ {xs : List α} {ys : List β}, xs.length = ys.length → (∀ (j : Nat) x y, xs[j]? = some x → ys[j]? = some y → F x y) → Paired F xs ys
  | [], [], _, _ => .nil
  | x :: xs, y :: ys, hl, h => .cons (h 0 x y rfl rfl) (paired_ix2 (Nat.succ.inj hl) fun j u v hu hv => h (j + 1) u v hu hv)
theorem paired_app {α β : Type} {F : α → β → Prop} : ∀ {xs : List α} {ys : List β} {us : List α} {vs : List β}, Paired F xs ys → Paired F us vs → Paired F (xs ++ us) (ys ++ vs)
  | _, _, _, _, .nil, h => h
  | _, _, _, _, .cons a t, h => .cons a (paired_app t h)
theorem cut_from1 (xs : List V) : cutV xs (some 1) none = xs.drop 1 := by
  unfold cutV
  have e1 : HT.sIx xs.length xs.length none = xs.length := rfl
  rw [e1]
  cases xs with
  | nil => rfl
  | cons x xs =>
    have e2 : HT.sIx (x :: xs).length 0 (some 1) = 1 := by
      unfold HT.sIx
      simp
      try omega
    rw [e2]
    exact List.take_of_length_le (by simp)
end Hw

set_option Elab.async false
set_option linter.all false
set_option maxRecDepth 100000
set_option maxHeartbeats 4000000
namespace Hw
open PySem L2 PyProof.Rows
/-! deeds -/
inductive Deed
  | come (n : Str) (ts : List Str)
  | die (n : Str)
def Deed.name : Deed → Str
  | .come n _ => n
  | .die n => n
def Deed.isCome : Deed → Bool
  | .come _ _ => true
  | .die _ => false
def Deed.ties : Deed → List Str
  | .come _ ts => ts
  | .die _ => []
def sCome : Str := Str.ofString "come"
def sDie : Str := Str.ofString "die"
def Deed.word : Deed → Str
  | .come _ _ => sCome
  | .die _ => sDie
def cameD (ds : List Deed) : List Str := ds.flatMap fun d => if d.isCome = true then [d.name] else []
def livStep (l : List Str) : Deed → List Str
  | .come n _ => l ++ [n]
  | .die n => l.filter fun z => decide (z ≠ n)
def liv (ds : List Deed) : List Str := ds.foldl livStep []
def deadD (ds : List Deed) : List Str := ds.flatMap fun d => if d.isCome = true then [] else [d.name]
/-- deeds that can stand -/
inductive Hist : List Deed → Prop
  | nil : Hist []
  | come {ds : List Deed} {n : Str} {ts : List Str} (h : Hist ds) (nm : Nm n) (new : n ∉ cameD ds) (asc : Asc ts) (sub : ∀ t ∈ ts, t ∈ liv ds) : Hist (ds ++ [.come n ts])
  | die {ds : List Deed} {n : Str} (h : Hist ds) (lv : n ∈ liv ds) : Hist (ds ++ [.die n])
theorem came_snoc (ds : List Deed) (d : Deed) : cameD (ds ++ [d]) = cameD ds ++ if d.isCome = true then [d.name] else [] := by
  unfold cameD
  rw [List.flatMap_append]; simp
theorem dead_snoc (ds : List Deed) (d : Deed) : deadD (ds ++ [d]) = deadD ds ++ if d.isCome = true then [] else [d.name] := by
  unfold deadD
  rw [List.flatMap_append]; simp
theorem liv_snoc (ds : List Deed) (d : Deed) : liv (ds ++ [d]) = livStep (liv ds) d := by
  unfold liv
  rw [List.foldl_append]; rfl
theorem Hist.liv_came {ds : List Deed} (h : Hist ds) : ∀ z ∈ liv ds, z ∈ cameD ds := by
  induction h with
  | nil => intro z hz; cases hz
  | come h nm new asc sub ih =>
    intro z hz
    rw [liv_snoc] at hz
    rw [came_snoc]
    rcases List.mem_append.mp hz with hz | hz
    · exact List.mem_append_left _ (ih z hz)
    · exact List.mem_append_right _ hz
  | die h lv ih =>
    intro z hz
    rw [liv_snoc] at hz
    rw [came_snoc]
    exact List.mem_append_left _ (ih z (List.mem_filter.mp hz).1)
theorem Hist.came_nodup {ds : List Deed} (h : Hist ds) : (cameD ds).Nodup := by
  induction h with
  | nil => exact List.nodup_nil
  | come h nm new asc sub ih =>
    rw [came_snoc, List.nodup_append]
    exact ⟨ih, by simp [Deed.isCome], fun x hx y hy e => new (by
      have e2 : y = _ := List.mem_singleton.mp (show y ∈ [_] from hy)
      rw [e, e2] at hx
      exact hx)⟩
  | die h lv ih =>
    rw [came_snoc]
    show (cameD _ ++ []).Nodup
    rw [List.append_nil]
    exact ih
theorem Hist.liv_nodup {ds : List Deed} (h : Hist ds) : (liv ds).Nodup := by
  induction h with
  | nil => exact List.nodup_nil
  | come h nm new asc sub ih =>
    rw [liv_snoc]
    show (_ ++ [_]).Nodup
    rw [List.nodup_append]
    exact ⟨ih, by simp, fun x hx y hy e => new (h.liv_came _ (by rw [List.mem_singleton.mp hy] at e; exact e ▸ hx))⟩
  | die h lv ih =>
    rw [liv_snoc]
    exact ih.filter _
theorem Hist.nm {ds : List Deed} (h : Hist ds) : ∀ z ∈ cameD ds, Nm z := by
  induction h with
  | nil => intro z hz; cases hz
  | come h nm new asc sub ih =>
    intro z hz
    rw [came_snoc] at hz
    rcases List.mem_append.mp hz with hz | hz
    · exact ih z hz
    · rw [List.mem_singleton.mp (show z ∈ [_] from hz)]; exact nm
  | die h lv ih =>
    intro z hz
    rw [came_snoc] at hz
    rcases List.mem_append.mp hz with hz | hz
    · exact ih z hz
    · cases hz
theorem came_len (ds : List Deed) : (cameD ds).length ≤ ds.length := by
  unfold cameD
  induction ds with
  | nil => exact Nat.le_refl _
  | cons d ds ih =>
    rw [List.flatMap_cons, List.length_append, List.length_cons]
    have : (if d.isCome = true then [d.name] else []).length ≤ 1 := by split <;> simp
    omega
theorem len_subN {xs ys : List Str} (h : ∀ z ∈ xs, z ∈ ys) (hn : xs.Nodup) : xs.length ≤ ys.length := sub_len hn h
theorem Hist.liv_len {ds : List Deed} (h : Hist ds) : (liv ds).length ≤ ds.length := Nat.le_trans (len_subN h.liv_came h.liv_nodup) (came_len ds)
/-- what each deed keeps -/
theorem Hist.each {ds : List Deed} (h : Hist ds) : ∀ d ∈ ds, Nm d.name ∧ d.ties.length ≤ ds.length ∧ (∀ t ∈ d.ties, Nm t) ∧ Asc d.ties := by
  induction h with
  | nil => intro d hd; cases hd
  | @come ds n ts h nm new asc sub ih =>
    intro d hd
    rw [List.length_append]
    rcases List.mem_append.mp hd with hd | hd
    · obtain ⟨a, b, c, e⟩ := ih d hd
      exact ⟨a, Nat.le_trans b (Nat.le_add_right _ _), c, e⟩
    · rw [List.mem_singleton.mp hd]
      exact ⟨nm, Nat.le_trans (Nat.le_trans (len_subN sub asc.nodup) h.liv_len) (Nat.le_add_right _ _), fun t ht => h.nm t (h.liv_came t (sub t ht)), asc⟩
  | @die ds n h lv ih =>
    intro d hd
    rw [List.length_append]
    rcases List.mem_append.mp hd with hd | hd
    · obtain ⟨a, b, c, e⟩ := ih d hd
      exact ⟨a, Nat.le_trans b (Nat.le_add_right _ _), c, e⟩
    · rw [List.mem_singleton.mp hd]
      exact ⟨h.nm n (h.liv_came n lv), Nat.zero_le _, (fun _ z => nomatch z), .nil⟩
theorem Hist.pre {ds : List Deed} {d : Deed} (h : Hist (ds ++ [d])) : Hist ds := by
  generalize e : ds ++ [d] = es at h
  cases h with
  | nil => simp at e
  | come h _ _ _ _ =>
    obtain ⟨e1, _⟩ := List.append_inj' e rfl
    rw [e1]; exact h
  | die h _ =>
    obtain ⟨e1, _⟩ := List.append_inj' e rfl
    rw [e1]; exact h
theorem Hist.take {ds : List Deed} (h : Hist ds) (i : Nat) : Hist (ds.take i) := by
  induction h with
  | nil => rw [List.take_nil]; exact .nil
  | @come ds n ts h nm new asc sub ih =>
    by_cases hi : i ≤ ds.length
    · rw [List.take_append_of_le_length hi]; exact ih
    · rw [List.take_of_length_le (by rw [List.length_append]; show ds.length + 1 ≤ i; omega)]
      exact .come h nm new asc sub
  | @die ds n h lv ih =>
    by_cases hi : i ≤ ds.length
    · rw [List.take_append_of_le_length hi]; exact ih
    · rw [List.take_of_length_le (by rw [List.length_append]; show ds.length + 1 ≤ i; omega)]
      exact .die h lv
/-- a come in its place -/
theorem Hist.come_at {ds : List Deed} (h : Hist ds) {i : Nat} {n : Str} {ts : List Str} (e : ds[i]? = some (.come n ts)) : Nm n ∧ n ∉ cameD (ds.take i) ∧ Asc ts ∧ ∀ t ∈ ts, t ∈ liv (ds.take i) := by
  have h1 := h.take (i + 1)
  rw [take_snoc e] at h1
  generalize e0 : ds.take i = l at h1 ⊢
  generalize e1 : l ++ [Deed.come n ts] = es at h1
  cases h1 with
  | nil => simp at e1
  | come h nm new asc sub =>
    obtain ⟨e2, e3⟩ := List.append_inj' e1 rfl
    cases e3
    subst e2
    exact ⟨nm, new, asc, sub⟩
  | die h lv =>
    obtain ⟨_, e3⟩ := List.append_inj' e1 rfl
    cases e3
theorem Hist.die_at {ds : List Deed} (h : Hist ds) {i : Nat} {n : Str} (e : ds[i]? = some (.die n)) : n ∈ liv (ds.take i) := by
  have h1 := h.take (i + 1)
  rw [take_snoc e] at h1
  generalize e0 : ds.take i = l at h1 ⊢
  generalize e1 : l ++ [Deed.die n] = es at h1
  cases h1 with
  | nil => simp at e1
  | come h nm new asc sub =>
    obtain ⟨_, e3⟩ := List.append_inj' e1 rfl
    cases e3
  | die h lv =>
    obtain ⟨e2, e3⟩ := List.append_inj' e1 rfl
    cases e3
    subst e2
    exact lv
/-- a deed as it lies -/
def DeedAt (H : Hp) (q : Addr) : Deed → Prop
  | .come n ts => ∃ tq, H q = some (.tup [.str sCome, .str n, .ref tq]) ∧ H tq = some (.tup (ts.map V.str))
  | .die n => H q = some (.tup [.str sDie, .str n])
theorem DeedAt.keep {H H' : Hp} {q : Addr} (s : Same H H') : ∀ {d : Deed}, DeedAt H q d → DeedAt H' q d
  | .come _ _, ⟨tq, h1, h2⟩ => ⟨tq, s _ _ h1, s _ _ h2⟩
  | .die _, h => s _ _ h
theorem DeedAt.sx {H H' : Hp} {a q : Addr} {N : Nat} (hP : Pot H a N) (s : SameX a H H') : ∀ {d : Deed}, DeedAt H q d → DeedAt H' q d
  | .come _ _, ⟨tq, h1, h2⟩ => ⟨tq, s _ _ (pot_tup hP h1) h1, s _ _ (pot_tup hP h2) h2⟩
  | .die _, h => s _ _ (pot_tup hP h) h
/-- the list of deeds as it lies -/
def DeedsAt (H : Hp) (l : Addr) (ds : List Deed) : Prop := ∃ qs : List Addr, H l = some (.lst (qs.map V.ref)) ∧ Paired (DeedAt H) qs ds
theorem DeedsAt.keep {H H' : Hp} {l : Addr} {ds : List Deed} (h : DeedsAt H l ds) (s : Same H H') : DeedsAt H' l ds := by
  obtain ⟨qs, h1, h2⟩ := h
  exact ⟨qs, s _ _ h1, paired_mono (fun q d e => e.keep s) h2⟩
theorem DeedsAt.sx {H H' : Hp} {a l : Addr} {N : Nat} {ds : List Deed} (h : DeedsAt H l ds) (hP : Pot H a N) (s : SameX a H H') : DeedsAt H' l ds := by
  obtain ⟨qs, h1, h2⟩ := h
  exact ⟨qs, s _ _ (Ne.symm (pot_ne_refs hP h1)) h1, paired_mono (fun q d e => e.sx hP s) h2⟩
/-- its first word and its name, whatever it is -/
theorem DeedAt.two {K : PySem.W.Frag} {H : Hp} {q : Addr} : ∀ {d : Deed}, DeedAt H q d → ∃ more : List V, H q = some (.tup (.str d.word :: .str d.name :: more))
  | .come _ _, ⟨tq, h1, _⟩ => ⟨[.ref tq], h1⟩
  | .die _, h => ⟨[], h⟩
theorem word_come (d : Deed) : decide (V.str d.word = V.str (Str.ofString "come")) = d.isCome := by
  cases d with
  | come n ts => exact decide_eq_true rfl
  | die n =>
    refine decide_eq_false fun e => ?_
    injection e with e
    exact absurd (show sDie = Str.ofString "come" from e) (by decide +kernel)
end Hw

set_option Elab.async false
set_option linter.all false
set_option maxRecDepth 100000
set_option maxHeartbeats 4000000
namespace Hw
open PySem L2 PyProof.Rows
def deedLine (d : Deed) : Str := Txt.join sBl (d.word :: d.name :: d.ties)
def histText (ds : List Deed) : Str := Txt.join sNl (ds.map deedLine)
def spHText : Sp := fun vs H Q _ => ∃ (l : Addr) (ds : List Deed), vs = [.ref l] ∧ DeedsAt H l ds ∧ Hist ds ∧ ds.length ≤ 100 ∧ ∀ H', Same H H' → Q (.str (histText ds)) H'
theorem deed_sum {ds : List Deed} {d : Deed} (h : Nm d.name ∧ d.ties.length ≤ ds.length ∧ (∀ t ∈ d.ties, Nm t) ∧ Asc d.ties) (hl : ds.length ≤ 100) : ((d.word :: d.name :: d.ties).map (·.length)).sum + (d.word :: d.name :: d.ties).length * sBl.length ≤ 1000 := by
  obtain ⟨h1, h2, h3, _⟩ := h
  have hw : d.word.length ≤ 8 := by
    cases d with
    | come n ts => exact show sCome.length ≤ 8 by decide +kernel
    | die n => exact show sDie.length ≤ 8 by decide +kernel
  have hs := sum_le (ps := d.word :: d.name :: d.ties) (b := 8) fun p hp => by
    rcases List.mem_cons.mp hp with rfl | hp
    · exact hw
    · rcases List.mem_cons.mp hp with rfl | hp
      · exact h1.2.1
      · exact (h3 p hp).2.1
  have e1 : sBl.length = 1 := by decide +kernel
  have el : (d.word :: d.name :: d.ties).length = d.ties.length + 2 := rfl
  rw [el] at hs ⊢
  rw [e1]
  omega
theorem deedLine_len {ds : List Deed} {d : Deed} (h : Nm d.name ∧ d.ties.length ≤ ds.length ∧ (∀ t ∈ d.ties, Nm t) ∧ Asc d.ties) (hl : ds.length ≤ 100) : (deedLine d).length ≤ 1000 := Nat.le_trans (join_len _ _) (deed_sum h hl)
theorem hist_sum {ds : List Deed} (h : Hist ds) (hl : ds.length ≤ 100) : ((ds.map deedLine).map (·.length)).sum + (ds.map deedLine).length * sNl.length ≤ 200000 := by
  have hs := sum_le (ps := ds.map deedLine) (b := 1000) fun p hp => by
    obtain ⟨d, hd, rfl⟩ := List.mem_map.mp hp
    exact deedLine_len (h.each d hd) hl
  have e1 : sNl.length = 1 := by decide +kernel
  rw [List.length_map] at hs ⊢
  rw [e1]
  omega
section
variable {P : Program} {w : World} {K : PySem.W.Frag} {mg : Str → Option Value} {base : Heap}
end
end Hw

set_option Elab.async false
set_option linter.all false
set_option maxRecDepth 100000
set_option maxHeartbeats 4000000
namespace Hw
open PySem L2 PyProof.Rows
/-- a dict of names, True at each -/
def encL (ns : List Str) : List (Key × V) := ns.map fun n => ((Sum.inr n : Key), V.bl true)
theorem encL_val (ns : List Str) (z : Str) : valV (encL ns) (Sum.inr z) = if z ∈ ns then some (V.bl true) else none := valV_names (g := fun _ => V.bl true) z
theorem encL_new {ns : List Str} {z : Str} (h : z ∉ ns) : putK (encL ns) (Sum.inr z) (V.bl true) = encL (ns ++ [z]) := by
  rw [putK_new _ (by rw [encL_val, if_neg h])]
  unfold encL
  rw [List.map_append]; rfl
theorem encL_drop (ns : List Str) (z : Str) : dropK (encL ns) (Sum.inr z : Key) = encL (ns.filter fun y => decide (y ≠ z)) := by
  unfold dropK encL
  rw [List.filter_map]
  congr 1
  refine List.filter_congr fun y _ => ?_
  show decide ((Sum.inr y : Key) ≠ Sum.inr z) = decide (y ≠ z)
  rw [decide_eq_decide]
  exact ⟨fun h e => h (by rw [e]), fun h e => h (Sum.inr.inj e)⟩
theorem encL_keys (ns : List Str) : (encL ns).map (fun kv => kV kv.1) = ns.map V.str := by
  unfold encL
  rw [List.map_map]; rfl
theorem encL_len (ns : List Str) : (encL ns).length = ns.length := by
  unfold encL
  rw [List.length_map]
def spLiving : Sp := fun vs H Q _ => ∃ (l : Addr) (ds : List Deed), vs = [.ref l] ∧ DeedsAt H l ds ∧ Hist ds ∧ ds.length ≤ 100 ∧ ∀ p H', Same H H' → H p = none → H' p = some (.lst ((sortS (liv ds)).map V.str)) → Q (.ref p) H'
theorem Hist.liv_take {ds : List Deed} (h : Hist ds) (i : Nat) : (liv (ds.take i)).length ≤ ds.length := Nat.le_trans (h.take i).liv_len (by rw [List.length_take]; omega)
section
variable {P : Program} {w : World} {K : PySem.W.Frag} {mg : Str → Option Value} {base : Heap}
end
end Hw

set_option Elab.async false
set_option linter.all false
set_option maxRecDepth 100000
set_option maxHeartbeats 4000000
namespace Hw
open PySem L2 PyProof.Rows
/-! counts of elder ties -/
def cntStep (c : Str → Nat) : Deed → Str → Nat
  | .come n ts => fun z => (if z = n then ts.length else c z) + if z ∈ ts then 1 else 0
  | .die _ => c
def cntD (ds : List Deed) : Str → Nat := ds.foldl cntStep fun _ => 0
theorem cnt_snoc (ds : List Deed) (d : Deed) : cntD (ds ++ [d]) = cntStep (cntD ds) d := by
  unfold cntD
  rw [List.foldl_append]; rfl
def encF' (ns : List Str) (g : Str → V) : List (Key × V) := ns.map fun n => ((Sum.inr n : Key), g n)
theorem encF_val (ns : List Str) (g : Str → V) (z : Str) : valV (encF' ns g) (Sum.inr z) = if z ∈ ns then some (g z) else none := valV_names (g := g) z
theorem encF_new {ns : List Str} {g : Str → V} {z : Str} {v : V} (h : z ∉ ns) : putK (encF' ns g) (Sum.inr z) v = encF' (ns ++ [z]) fun y => if y = z then v else g y := by
  rw [putK_new _ (by rw [encF_val, if_neg h])]
  unfold encF'
  rw [List.map_append]
  congr 1
  · exact List.map_congr_left fun n hn => by
      show _ = ((Sum.inr n : Key), if n = z then v else g n)
      rw [if_neg (fun e => h (by rw [← e]; exact hn))]
  · simp
theorem encF_old {ns : List Str} {g : Str → V} {z : Str} {v : V} (h : z ∈ ns) : putK (encF' ns g) (Sum.inr z) v = encF' ns fun y => if y = z then v else g y := by
  unfold putK
  rw [valV_any, encF_val, if_pos h]
  show (if true = true then _ else _) = _
  rw [if_pos rfl]
  unfold encF'
  rw [List.map_map]
  refine List.map_congr_left fun n _ => ?_
  show (if (Sum.inr n : Key) = Sum.inr z then ((Sum.inr n : Key), v) else _) = ((Sum.inr n : Key), if n = z then v else g n)
  by_cases e : n = z
  · rw [if_pos (by rw [e]), if_pos e]
  · rw [if_neg (fun q => e (Sum.inr.inj q)), if_neg e]
theorem encF_congr {ns : List Str} {f g : Str → V} (h : ∀ n ∈ ns, f n = g n) : encF' ns f = encF' ns g := List.map_congr_left fun n hn => by rw [h n hn]
theorem encF_len (ns : List Str) (g : Str → V) : (encF' ns g).length = ns.length := List.length_map _
abbrev natV (c : Str → Nat) : Str → V := fun z => V.int (c z : Nat)
theorem Hist.came_take {ds : List Deed} (h : Hist ds) (i : Nat) : (cameD (ds.take i)).length ≤ ds.length := Nat.le_trans (came_len _) (by rw [List.length_take]; omega)
def spCounts : Sp := fun vs H Q _ => ∃ (l : Addr) (ds : List Deed), vs = [.ref l] ∧ DeedsAt H l ds ∧ Hist ds ∧ ds.length ≤ 100 ∧ ∀ d H', Same H H' → H d = none → H' d = some (.dK (encF' (cameD ds) (natV (cntD ds)))) → Q (.ref d) H'
def spDead : Sp := fun vs H Q _ => ∃ (l : Addr) (ds : List Deed), vs = [.ref l] ∧ DeedsAt H l ds ∧ Hist ds ∧ ds.length ≤ 100 ∧ ∀ p H', Same H H' → H p = none → H' p = some (.lst ((sortS (deadD ds)).map V.str)) → Q (.ref p) H'
def elderT (ds : List Deed) : List Tie := ds.flatMap fun d => d.ties.map fun t => tieOf d.name t
theorem elder_snoc (ds : List Deed) (d : Deed) : elderT (ds ++ [d]) = elderT ds ++ d.ties.map fun t => tieOf d.name t := by
  unfold elderT
  rw [List.flatMap_append]; simp
theorem elder_len {ds : List Deed} (h : Hist ds) (hl : ds.length ≤ 100) : ∀ i, (elderT (ds.take i)).length ≤ 100 * i
  | 0 => Nat.zero_le _
  | i + 1 => by
    have ih := elder_len h hl i
    cases e : ds[i]? with
    | none =>
      rw [List.take_of_length_le (Nat.le_succ_of_le (List.getElem?_eq_none_iff.mp e)), ← List.take_of_length_le (i := i) (List.getElem?_eq_none_iff.mp e)]
      omega
    | some d =>
      rw [take_snoc e, elder_snoc, List.length_append, List.length_map]
      have := (h.each d (List.mem_of_getElem? e)).2.1
      omega
theorem dead_len {ds : List Deed} : (deadD ds).length ≤ ds.length := by
  unfold deadD
  induction ds with
  | nil => exact Nat.le_refl _
  | cons d ds ih =>
    rw [List.flatMap_cons, List.length_append, List.length_cons]
    have : (if d.isCome = true then [] else [d.name]).length ≤ 1 := by split <;> simp
    omega
def spElder : Sp := fun vs H Q _ => ∃ (l : Addr) (ds : List Deed), vs = [.ref l] ∧ DeedsAt H l ds ∧ Hist ds ∧ ds.length ≤ 100 ∧ ∀ p H', Same H H' → H p = none → WebAt H' p (sortS (cameD ds)) (sortP (elderT ds)) → Q (.ref p) H'
section
variable {P : Program} {w : World} {K : PySem.W.Frag} {mg : Str → Option Value} {base : Heap}
end
end Hw

set_option Elab.async false
set_option linter.all false
set_option maxRecDepth 100000
set_option maxHeartbeats 4000000
namespace Hw
open PySem L2 PyProof.Rows
section
variable {P : Program} {w : World} {K : PySem.W.Frag} {mg : Str → Option Value} {base : Heap}
theorem word_die (d : Deed) : decide (V.str d.word = V.str (Str.ofString "die")) = !d.isCome := by
  cases d with
  | come n ts =>
    refine decide_eq_false fun e => ?_
    injection e with e
    exact absurd (show sCome = Str.ofString "die" from e) (by decide +kernel)
  | die n => exact decide_eq_true rfl
end
end Hw

set_option Elab.async false
set_option linter.all false
set_option maxRecDepth 100000
set_option maxHeartbeats 4000000
namespace Hw
open PySem L2 PyProof.Rows
theorem erase_map {α β : Type} (g : α → β) : ∀ (l : List α) (i : Nat), (l.map g).eraseIdx i = (l.eraseIdx i).map g
  | [], _ => rfl
  | _ :: _, 0 => rfl
  | x :: l, i + 1 => congrArg (g x :: ·) (erase_map g l i)
theorem erase_perm {α : Type} : ∀ (l : List α) (i : Nat) (h : i < l.length), (l[i] :: l.eraseIdx i).Perm l
  | x :: l, 0, _ => .refl _
  | x :: l, i + 1, h => by
    have h' : i < l.length := by rw [List.length_cons] at h; omega
    have e1 : (x :: l)[i + 1] = l[i] := rfl
    have e2 : (x :: l).eraseIdx (i + 1) = x :: l.eraseIdx i := rfl
    rw [e1, e2]
    exact (List.Perm.swap _ _ _).trans ((erase_perm l i h').cons x)
def spSome : Sp := fun vs H Q _ => ∃ (a b : Addr) (ns : List Str) (m N : Nat), vs = [.ref a, .ref b, .int m] ∧ Pot H a N ∧ H b = some (.lst (ns.map V.str)) ∧ N < 900000000 ∧ m ≤ ns.length ∧ ns.length ≤ 1000 ∧
  ∀ p (zs : List Str) H', (∀ z ∈ zs, z ∈ ns) → zs.length = m → (ns.Nodup → zs.Nodup) → H p = none → H' p = some (.lst (zs.map V.str)) → SameX a H H' → Pot H' a (N + m) → Q (.ref p) H'
section
variable {P : Program} {w : World} {K : PySem.W.Frag} {mg : Str → Option Value} {base : Heap}
end
end Hw

set_option Elab.async false
set_option linter.all false
set_option maxRecDepth 100000
set_option maxHeartbeats 4000000
namespace Hw
open PySem L2 PyProof.Rows
def spComeT : Sp := fun vs H Q _ => ∃ (a l : Addr) (ns : List Str) (wd : Bool) (N : Nat), vs = [.ref a, .ref l, .bl wd] ∧ Pot H a N ∧ N < 400000000 ∧ H l = some (.lst (ns.map V.str)) ∧ ns.Nodup ∧ (∀ z ∈ ns, Nm z) ∧ ns.length ≤ 100 ∧
  ∀ tq ts H', (∀ t ∈ ts, t ∈ ns) → Asc ts → (wd = true → ts.length ≤ 1) → H' tq = some (.tup (ts.map V.str)) → SameX a H H' → Pot H' a (N + 10) → Q (.ref tq) H'
theorem eqv_strs_nil (ns : List Str) : PyData.eqv (.list (ns.map PyData.str)) (.list []) = decide (ns = []) := by
  rw [PyData.eqv]
  cases ns with
  | nil => rfl
  | cons x xs => rfl
section
variable {P : Program} {w : World} {K : PySem.W.Frag} {mg : Str → Option Value} {base : Heap}
end
end Hw

set_option Elab.async false
set_option linter.all false
set_option maxRecDepth 100000
set_option maxHeartbeats 4000000
namespace Hw
open PySem L2 PyProof.Rows
def spShape : Sp := fun vs H Q _ => ∃ (a l : Addr) (ns : List Str) (sh wi : Nat) (wd : Bool) (N : Nat), vs = [.ref a, .ref l, .int sh, .int wi, .bl wd] ∧ Pot H a N ∧ N < 400000000 ∧ H l = some (.lst (ns.map V.str)) ∧ ns.Nodup ∧ (∀ z ∈ ns, Nm z) ∧ ns.length ≤ 100 ∧ 2 ≤ wi ∧ wi ≤ 100 ∧
  ∀ tq ts H', (∀ t ∈ ts, t ∈ ns) → Asc ts → (wd = true → ts.length ≤ 1) → H' tq = some (.tup (ts.map V.str)) → SameX a H H' → Pot H' a (N + 10) → Q (.ref tq) H'
section
variable {P : Program} {w : World} {K : PySem.W.Frag} {mg : Str → Option Value} {base : Heap}
end
end Hw

set_option Elab.async false
set_option linter.all false
set_option maxRecDepth 100000
set_option maxHeartbeats 4000000
namespace Hw
open PySem L2 PyProof.Rows
theorem g4_of {K : PySem.W.Frag} {σ : L2.St} {H : Hp} {i j k m : Nat} {p : Addr} {x y z u : V} {R : L2.St → Hp → Prop} (e : SqT K H p [x, y, z, u]) (h : R ((((σ.set i (some x)).set j (some y)).set k (some z)).set m (some u)) H) : gTup K 4 (gCons (gName i) (gCons (gName j) (gCons (gName k) (gCons (gName m) gNil)))) (.ref p) σ H R :=
  ⟨p, [x, y, z, u], rfl, e, rfl, _, [y, z, u], rfl, _, [z, u], rfl, _, [u], rfl, _, [], rfl, rfl, h⟩
def WoodD (wd : Bool) (ds : List Deed) : Prop := wd = true → ∀ d ∈ ds, d.ties.length ≤ 1
def spGrown : Sp := fun vs H Q _ => ∃ (a l : Addr) (ns : List Str) (wd : Bool) (N : Nat), vs = [.ref a, .ref l, .bl wd] ∧ Pot H a N ∧ N < 300000000 ∧ H l = some (.lst (ns.map V.str)) ∧ ns.Nodup ∧ (∀ z ∈ ns, Nm z) ∧ ns.length ≤ 60 ∧
  ∀ p ds H', Hist ds → ds.length = ns.length → cameD ds = ns → liv ds = ns → WoodD wd ds → DeedsAt H' p ds → H p = none → p ≠ a → SameX a H H' → Pot H' a (N + 10 * ns.length + 5) → Q (.ref p) H'
/-- comings as they are made -/
structure GrowI (a dl hl : Addr) (ns : List Str) (wd : Bool) (H : Hp) (M i : Nat) (ds : List Deed) (qs : List Addr) (H' : Hp) : Prop where
  sx : SameX a H H'
  pot : Pot H' a M
  ed : H' dl = some (.lst (qs.map V.ref))
  dd : Paired (DeedAt H') qs ds
  eh : H' hl = some (.lst ((ns.take i).map V.str))
  hist : Hist ds
  came : cameD ds = ns.take i
  liv : liv ds = ns.take i
  len : ds.length = i
  wood : WoodD wd ds
theorem GrowI.step {a dl hl : Addr} {ns : List Str} {wd : Bool} {H H' H'' : Hp} {M M' i : Nat} {ds : List Deed} {qs : List Addr} (w : GrowI a dl hl ns wd H M i ds qs H') (s : SameX a H' H'') (hp : Pot H'' a M') : GrowI a dl hl ns wd H M' i ds qs H'' :=
  ⟨w.sx.trans s, hp, s _ _ (Ne.symm (pot_ne_refs w.pot w.ed)) w.ed, paired_mono (fun q d e => e.sx w.pot s) w.dd, s _ _ (Ne.symm (pot_ne_strs w.pot w.eh)) w.eh, w.hist, w.came, w.liv, w.len, w.wood⟩
section
variable {P : Program} {w : World} {K : PySem.W.Frag} {mg : Str → Option Value} {base : Heap}
end
end Hw

set_option Elab.async false
set_option linter.all false
set_option maxRecDepth 100000
set_option maxHeartbeats 4000000
namespace Hw
open PySem L2 PyProof.Rows
/-! sorted of pairs of a number and a text, whatever comes first -/
def npD (p : Nat × Str) : PyData := .tuple [.int (p.1 : Nat), .str p.2]
abbrev NpAt (H : Hp) (q : Addr) (p : Nat × Str) : Prop := H q = some (.tup [.int (p.1 : Nat), .str p.2])
def rSortNP (K : PySem.W.Frag) : List V → Hp → VK → Prop := fun vs H Q => ∃ (a : Addr) (qs : List Addr) (ps : List (Nat × Str)), vs = [V.ref a] ∧ SqL K H a (qs.map V.ref) ∧ Paired (NpAt H) qs ps ∧ ps.length ≤ sizeLine ∧
  ∀ (p : Addr) (qs' : List Addr), H p = none → (∀ q ∈ qs', q ∈ qs) → qs'.length = qs.length → Q (.ref p) (upd H p (.lst (qs'.map V.ref)))
section
variable {X : Cx}
theorem cr_sortNP (hu : X.A.units + 64 < cLine) : CallR X (.builtin "sorted") (rSortNP X.K) := by
  intro pins s σ H vs us Q I r h
  obtain ⟨a, qs, ps, rfl, hs, hp, hz, q⟩ := h
  obtain ⟨l, rfl, rfl, hl⟩ := zip_of hp
  have e1 : (l.map fun x => (V.ref x.1, npD x.2)).map (·.1) = (l.map (·.1)).map V.ref := by rw [List.map_map, List.map_map]; rfl
  have e2 : (l.map fun x => (V.ref x.1, npD x.2)).map (·.2) = (l.map (·.2)).map npD := by rw [List.map_map, List.map_map]; rfl
  rw [List.length_map] at hz
  refine cr_sortB hu pins s σ H _ us Q I r ⟨a, l.map fun x => (V.ref x.1, npD x.2), rfl, by rw [e1]; exact hs, fun b hb => ?_, ?_, ?_, by rw [List.length_map]; exact hz, fun p hp => ?_⟩
  · obtain ⟨z, hz, rfl⟩ := List.mem_map.mp hb
    refine ⟨.tup (sqt_of (hl z hz)) (.cons (Dp_flat rfl) (.cons (Dp_flat rfl) .nil)), ?_⟩
    show PyData.depth (npD z.2) ≤ 50
    unfold npD
    simp [PyData.depth, PyData.depthAll]
  · rw [e2]; exact PySem.W.AllAlike.of fun _ _ => by simp [PySem.W.alike, PySem.W.alikeAll, npD]
  · rw [e2]; exact PySem.W.Sortable.tuples (enc := npD) fun z => ⟨_, _, rfl⟩
  · have e : (l.map fun x => (V.ref x.1, npD x.2)).mergeSort (PySem.W.dataLe false (·.2)) = (l.mergeSort fun x y => PySem.W.dataLe false id (npD x.2) (npD y.2)).map fun x => (V.ref x.1, npD x.2) := by
      refine (List.map_mergeSort fun a _ b _ => ?_).symm
      rfl
    rw [e, List.map_map]
    have := q p ((l.mergeSort fun x y => PySem.W.dataLe false id (npD x.2) (npD y.2)).map (·.1)) hp (fun y hy => by
      obtain ⟨x, hx, rfl⟩ := List.mem_map.mp hy
      exact List.mem_map.mpr ⟨x, List.mem_mergeSort.mp hx, rfl⟩) (by rw [List.length_map, List.length_mergeSort, List.length_map])
    rw [List.map_map] at this
    exact this
def rNeNil : R2 := fun x y H Q => ∃ a b ks, x = .ref a ∧ y = .ref b ∧ H a = some (.dK ks) ∧ H b = some (.dK []) ∧ Q (.bl (decide (ks ≠ []))) H
theorem op_neNil (hu : X.A.units < cLine) : OpR X (compareOp .NotEq) rNeNil := by
  intro pins s σ H x y v u Q I rx ry h
  obtain ⟨a, b, ks, rfl, rfl, ea, eb, q⟩ := h
  obtain rfl : v = Value.ref a := rx
  obtain rfl : u = Value.ref b := ry
  obtain ⟨_, ya, va, ra, da⟩ := (show ObjOk X.prog X.w H s.heap a (.dK ks) from I.hok a _ ea)
  obtain ⟨_, yb, vb, rb, db⟩ := (show ObjOk X.prog X.w H s.heap b (.dK []) from I.hok b _ eb)
  have hla : ks.length = va.length := ra.length
  have hlb : 0 = vb.length := rb.length
  by_cases h0 : ks = []
  · subst h0
    exact PySem.W.keq_ne (knd := mixKind X.prog X.w) (r := true) ya yb da db hu (fun _ => hits_all rb ra (fun p hp => nomatch hp)) (fin_bl I q (by
      have : va.length = vb.length := by rw [← hla, ← hlb]; rfl
      simp [this]))
  · have hne : va.length ≠ vb.length := by
      have := List.length_pos_iff.mpr h0
      omega
    exact PySem.W.keq_ne (knd := mixKind X.prog X.w) (r := true) ya yb da db hu (fun e => absurd e hne) (fin_bl I q (by simp [h0, hne]))
end
end Hw

set_option Elab.async false
set_option linter.all false
set_option maxRecDepth 100000
set_option maxHeartbeats 4000000
namespace Hw
open PySem L2 PyProof.Rows
theorem at_lastV {xs : List V} (h : xs ≠ []) : atI xs (-1) = some (xs.getLast h) := by
  have e1 : xs = xs.dropLast ++ [xs.getLast h] := (List.dropLast_concat_getLast h).symm
  have := atI_last xs.dropLast (xs.getLast h)
  rw [← e1] at this
  exact this
theorem encL_put (ns : List Str) (z : Str) : putK (encL ns) (Sum.inr z) (V.bl true) = encL (if z ∈ ns then ns else ns ++ [z]) := by
  by_cases h : z ∈ ns
  · rw [if_pos h]
    unfold putK
    rw [valV_any, encL_val, if_pos h]
    show (if true = true then _ else _) = _
    rw [if_pos rfl]
    unfold encL
    rw [List.map_map]
    refine List.map_congr_left fun n _ => ?_
    show (if (Sum.inr n : Key) = Sum.inr z then ((Sum.inr n : Key), V.bl true) else _) = _
    split <;> rfl
  · rw [if_neg h, encL_new h]
theorem strs_flat (zs : List Str) : (zs.map V.str).all flatV = true := by
  rw [List.all_eq_true]
  intro y hy
  obtain ⟨z, _, rfl⟩ := List.mem_map.mp hy
  rfl
theorem rs_listR {K : PySem.W.Frag} {te : TE} {g : TG} {tb u : TS} {D : Ends} {σ : L2.St} {H : Hp} (P0 : Addr → List V → Hp → Prop) (Pv : Addr → List V → Hp → Nat → L2.St → Hp → Prop) (hw : ∀ Q : VK, (∀ l xs H1, P0 l xs H1 → Q (.ref l) H1) → te σ H Q) (h0 : ∀ l xs H1, P0 l xs H1 → Pv l xs H1 0 σ H1)
    (hl : ∀ l xs H1 i σ H, Pv l xs H1 i σ H → SqL K H l xs) (hs : ∀ l xs H1 i x σ H, P0 l xs H1 → xs[i]? = some x → Pv l xs H1 i σ H → g x σ H fun σ2 H2 => tb { D with nx := Pv l xs H1 (i + 1), ct := Pv l xs H1 (i + 1), bk := u D } σ2 H2)
    (hd : ∀ l xs H1 σ H, P0 l xs H1 → Pv l xs H1 xs.length σ H → u D σ H) : tSeq (tFor (iList K te) g tb) u D σ H :=
  hw _ fun l xs H1 p => ⟨l, rfl, ⟨_, hl _ _ _ _ _ _ (h0 l xs H1 p)⟩, for_list (D := { D with nx := u D }) (xs := xs) (Pv l xs H1) (h0 l xs H1 p) (fun i σ H _ q => hl _ _ _ _ _ _ q) (fun i x σ H hx q => hs l xs H1 i x σ H p hx q) (fun σ H q => hd l xs H1 σ H p q)⟩
/-- pairs of a number and a living name -/
def SomeAt (H : Hp) (l : Addr) (lv : List Str) : Prop := ∃ qs : List Addr, H l = some (.lst (qs.map V.ref)) ∧ qs.length = lv.length ∧ ∀ q ∈ qs, ∃ (c : Nat) (z : Str), z ∈ lv ∧ H q = some (.tup [.int (c : Nat), .str z])
theorem SomeAt.keep {H H' : Hp} {l : Addr} {lv : List Str} (h : SomeAt H l lv) (s : Same H H') : SomeAt H' l lv := by
  obtain ⟨qs, h1, h2, h3⟩ := h
  refine ⟨qs, s _ _ h1, h2, fun q hq => ?_⟩
  obtain ⟨c, z, m, e⟩ := h3 q hq
  exact ⟨c, z, m, s _ _ e⟩
def spNextD : Sp := fun vs H Q _ => ∃ (a l lv : Addr) (ds : List Deed) (wy : Nat) (N : Nat), vs = [.ref a, .ref l, .ref lv, .int wy] ∧ Pot H a N ∧ N < 400000000 ∧ DeedsAt H l ds ∧ Hist ds ∧ ds.length ≤ 100 ∧ H lv = some (.lst ((sortS (liv ds)).map V.str)) ∧ 0 < (liv ds).length ∧ wy < 7 ∧
  ∀ z H', z ∈ liv ds → SameX a H H' → Pot H' a (N + 2) → Q (.str z) H'
section
variable {P : Program} {w : World} {K : PySem.W.Frag} {mg : Str → Option Value} {base : Heap}
end
end Hw

set_option Elab.async false
set_option linter.all false
set_option maxRecDepth 100000
set_option maxHeartbeats 4000000
namespace Hw
open PySem L2 PyProof.Rows
theorem cut_to (xs : List V) (k : Nat) : cutV xs none (some (k : Int)) = xs.take k := by
  unfold cutV
  rw [HT.sIx_none, HT.sIx_nat, Nat.sub_zero, List.drop_zero]
  by_cases h : k ≤ xs.length
  · rw [Nat.min_eq_left h]
  · rw [Nat.min_eq_right (by omega), List.take_length, List.take_of_length_le (by omega)]
theorem cut_from (xs : List V) (k : Nat) : cutV xs (some (k : Int)) none = xs.drop k := by
  unfold cutV
  rw [HT.sIx_none, HT.sIx_nat]
  by_cases h : k ≤ xs.length
  · rw [Nat.min_eq_left h, List.take_of_length_le (by rw [List.length_drop]; omega)]
  · rw [Nat.min_eq_right (by omega), List.drop_length, List.take_nil, List.drop_of_length_le (by omega)]
theorem if_two {t : TT} {A B : TS} {D : Ends} {σ : L2.St} {H : Hp} (R1 R2 : Hp → Prop) (ht : ∀ Q : Bool → Hp → Prop, (∀ H', R1 H' → Q true H') → (∀ H', R2 H' → Q false H') → t σ H Q) (h1 : ∀ H', R1 H' → A D σ H') (h2 : ∀ H', R2 H' → B D σ H') : tIfS t A B D σ H :=
  ht _ (fun H' r => by show if true = true then _ else _; rw [if_pos rfl]; exact h1 H' r) (fun H' r => by show if false = true then _ else _; rw [if_neg Bool.false_ne_true]; exact h2 H' r)
theorem rs_rngE {wi : TI} {g : TG} {tb u : TS} {D : Ends} {σ : L2.St} {H : Hp} (lo : Int) (P0 : Nat → Hp → Prop) (Pv : Nat → Nat → L2.St → Hp → Prop) (hw : ∀ R : It → Hp → Prop, (∀ n H1, P0 n H1 → R (Itr lo n) H1) → wi σ H R) (h0 : ∀ n H1, P0 n H1 → Pv n 0 σ H1)
    (hs : ∀ n i σ H, i < n → Pv n i σ H → g (.int (lo + i)) σ H fun σ2 H2 => tb { D with nx := Pv n (i + 1), ct := Pv n (i + 1), bk := u D } σ2 H2) (hd : ∀ n σ H, Pv n n σ H → u D σ H) : tSeq (tFor wi g tb) u D σ H :=
  hw _ fun n H1 p => for_range (D := { D with nx := u D }) (Pv n) (h0 n H1 p) (hs n) (hd n)
theorem rs_setP {te : TE} {i : Nat} {u : TS} {D : Ends} {σ : L2.St} {H : Hp} (P0 : V → Hp → Prop) (hw : ∀ Q : VK, (∀ v H1, P0 v H1 → Q v H1) → te σ H Q) (h : ∀ v H1, P0 v H1 → u D (σ.set i (some v)) H1) : tSeq (tAsg te (gName i)) u D σ H := rs_set (hw _ h)
/-- a history as it is drawn -/
structure HistI (a dl sp : Addr) (wd : Bool) (H : Hp) (M pl mo i : Nat) (ds : List Deed) (qs : List Addr) (ss : List Str) (H' : Hp) : Prop where
  sx : SameX a H H'
  pot : Pot H' a M
  ed : H' dl = some (.lst (qs.map V.ref))
  dd : Paired (DeedAt H') qs ds
  es : H' sp = some (.lst (ss.map V.str))
  hist : Hist ds
  wood : WoodD wd ds
  nod : (cameD ds ++ ss).Nodup
  nm : ∀ z ∈ ss, Nm z
  len : ds.length ≤ pl + i
  few : mo ≤ ss.length + i
  sl : ss.length ≤ mo
theorem HistI.step {a dl sp : Addr} {wd : Bool} {H H' H'' : Hp} {M M' pl mo i : Nat} {ds : List Deed} {qs : List Addr} {ss : List Str} (w : HistI a dl sp wd H M pl mo i ds qs ss H') (s : SameX a H' H'') (hp : Pot H'' a M') : HistI a dl sp wd H M' pl mo i ds qs ss H'' :=
  ⟨w.sx.trans s, hp, s _ _ (Ne.symm (pot_ne_refs w.pot w.ed)) w.ed, paired_mono (fun q d e => e.sx w.pot s) w.dd, s _ _ (Ne.symm (pot_ne_strs w.pot w.es)) w.es, w.hist, w.wood, w.nod, w.nm, w.len, w.few, w.sl⟩
/-- what is put to the deeds' list keeps all that is no list of names or of deeds -/
theorem HistI.kd {a dl sp : Addr} {wd : Bool} {H H' H2 : Hp} {M pl mo i : Nat} {ds : List Deed} {qs : List Addr} {ss : List Str} (w : HistI a dl sp wd H M pl mo i ds qs ss H') (k : ∀ b o, b ≠ dl → b ≠ sp → H' b = some o → H2 b = some o) : ∀ (q : Addr) (d : Deed), DeedAt H' q d → DeedAt H2 q d := fun q d e => by
  have kt : ∀ {b : Addr} {vs : List V}, H' b = some (.tup vs) → H2 b = some (.tup vs) := fun {b vs} e => k b _ (fun y => by rw [y, w.ed] at e; cases e) (fun y => by rw [y, w.es] at e; cases e) e
  cases d with
  | come n ts =>
    obtain ⟨tq, h1, h2⟩ := e
    exact ⟨tq, kt h1, kt h2⟩
  | die n => exact kt e
def spHist : Sp := fun vs H Q _ => ∃ (a : Addr) (pl mo : Nat) (wd : Bool) (N : Nat), vs = [.ref a, .int pl, .int mo, .bl wd] ∧ Pot H a N ∧ N < 200000000 ∧ 2 ≤ pl ∧ pl ≤ 30 ∧ mo ≤ 30 ∧
  ∀ p ds H', Hist ds → ds.length ≤ pl + mo → WoodD wd ds → DeedsAt H' p ds → SameX a H H' → Pot H' a (N + 3000) → Q (.ref p) H'
section
variable {P : Program} {w : World} {K : PySem.W.Frag} {mg : Str → Option Value} {base : Heap}
end
end Hw

set_option Elab.async false
set_option linter.all false
set_option maxRecDepth 100000
set_option maxHeartbeats 4000000
namespace Hw
open PySem L2 PyProof.Rows
abbrev sIsName : Stmt := topS 4
theorem low_alpha : ∀ c, 97 ≤ c → c ≤ 122 → Unicode.isAlpha c = true ∧ Unicode.isLower c = true ∧ Unicode.isUpper c = false ∧ Unicode.isTitle c = false ∧ c < 128 := by
  have h : ((List.range 26).all fun i => Unicode.isAlpha (97 + i) && Unicode.isLower (97 + i) && !Unicode.isUpper (97 + i) && !Unicode.isTitle (97 + i)) = true := by decide +kernel
  intro c h1 h2
  have := List.all_eq_true.mp h (c - 97) (List.mem_range.mpr (by omega))
  rw [show 97 + (c - 97) = c by omega] at this
  simp only [Bool.and_eq_true, Bool.not_eq_true'] at this
  obtain ⟨⟨⟨a, b⟩, d⟩, e⟩ := this
  exact ⟨a, b, d, e, by omega⟩
theorem nm_ascii {z : Str} (h : Nm z) : Txt.isascii z = true := by
  unfold Txt.isascii
  refine Array.all_eq_true_iff_forall_mem.mpr fun c hc => ?_
  have := h.2.2 c (cps_mem hc)
  exact decide_eq_true (by omega)
theorem nm_ne {z : Str} (h : Nm z) : ∃ c, c ∈ z.cps := by
  have h1 := h.1
  exact ⟨z.cps[0], Array.getElem_mem _⟩
theorem nm_alpha {z : Str} (h : Nm z) : Txt.isalpha z = true := by
  unfold Txt.isalpha
  rw [Bool.and_eq_true]
  refine ⟨?_, Array.all_eq_true_iff_forall_mem.mpr fun c hc => (low_alpha c (h.2.2 c (cps_mem hc)).1 (h.2.2 c (cps_mem hc)).2).1⟩
  have h1 := h.1
  exact decide_eq_true (by omega)
theorem nm_lower {z : Str} (h : Nm z) : Txt.islower z = true := by
  unfold Txt.islower
  obtain ⟨c, hc⟩ := nm_ne h
  have l := fun c (hc : c ∈ z.cps) => low_alpha c (h.2.2 c (cps_mem hc)).1 (h.2.2 c (cps_mem hc)).2
  rw [Bool.and_eq_true]
  refine ⟨Array.any_eq_true.mpr ?_, ?_⟩
  · obtain ⟨i, hi, rfl⟩ := Array.mem_iff_getElem.mp hc
    exact ⟨i, hi, (l _ hc).2.1⟩
  · rw [Bool.not_eq_true', Array.any_eq_false]
    intro i hi
    obtain ⟨_, _, a, b, _⟩ := l _ (Array.getElem_mem hi)
    rw [a, b]; decide
def spIsName : Sp := fun vs H Q _ => ∃ z, vs = [.str z] ∧ Nm z ∧ Q (.bl true) H
structure Blt3 (mg : Str → Option Value) : Prop where
  isi : mg "isinstance" = none
  str : mg "str" = none
  tuple : mg "tuple" = none
  all : mg "all" = none
  zip : mg "zip" = none
  enum : mg "enumerate" = none
  dict : mg "dict" = none
  sorted : mg "sorted" = none
  lnm : ∃ t, mg "LONGEST_NAME" = some (.int 8 t)
  mst : ∃ t, mg "MOST_PLACES" = some (.int 200 t)
abbrev sAsc : Stmt := topS 6
def spAsc (K : PySem.W.Frag) : Sp := fun vs H Q _ => ∃ (p : Addr) (zs : List Str), vs = [.ref p] ∧ SqT K H p (zs.map V.str) ∧ Asc zs ∧ zs.length ≤ 1000 ∧ ∀ H', Same H H' → Q (.bl true) H'
theorem cut1 {xs : List V} : cutV xs (some 1) none = xs.drop 1 := by
  unfold cutV
  rw [show HT.sIx xs.length 0 (some 1) = min 1 xs.length from HT.sIx_nat _ 0 1, HT.sIx_none]
  have e : xs.drop (min 1 xs.length) = xs.drop 1 := by
    by_cases h : 1 ≤ xs.length
    · rw [Nat.min_eq_left h]
    · rw [Nat.min_eq_right (by omega), List.drop_of_length_le (Nat.le_refl _), List.drop_of_length_le (by omega)]
  rw [e]
  refine List.take_of_length_le ?_
  rw [List.length_drop]; omega
theorem sqT_same {K : PySem.W.Frag} {H H' : Hp} {p : Addr} {xs : List V} (h : SqT K H p xs) (s : Same H H') : SqT K H' p xs := by
  rcases h with (h | ⟨o, h⟩) | h
  · exact .inl (.inl (s _ _ h))
  · exact .inl (.inr ⟨o, s _ _ h⟩)
  · exact .inr h
theorem sqL_same {K : PySem.W.Frag} {H H' : Hp} {p : Addr} {xs : List V} (h : SqL K H p xs) (s : Same H H') : SqL K H' p xs := by
  rcases h with (h | ⟨o, h⟩) | h
  · exact .inl (.inl (s _ _ h))
  · exact .inl (.inr ⟨o, s _ _ h⟩)
  · exact .inr h
theorem asc_at {zs : List Str} (ha : Asc zs) {i : Nat} {x y : Str} (h1 : zs[i]? = some x) (h2 : zs[i + 1]? = some y) : x.cps.toList < y.cps.toList := by
  obtain ⟨p1, rfl⟩ := List.getElem?_eq_some_iff.mp h1
  obtain ⟨p2, rfl⟩ := List.getElem?_eq_some_iff.mp h2
  exact of_decide_eq_true (List.pairwise_iff_getElem.mp ha i (i + 1) p1 p2 (by omega))
theorem all_rep (n : Nat) : (List.replicate n true).all id = true := by
  rw [List.all_eq_true]
  intro x hx
  rw [(List.mem_replicate.mp hx).2]; rfl
theorem nm_no {z : Str} (h : Nm z) {c : Nat} (hc : c < 97) : c ∉ z.cps.toList := fun hm => by have := (h.2.2 c hm).1; omega
theorem split_bl {ps : List Str} (hne : ps ≠ []) (h : ∀ p ∈ ps, 32 ∉ p.cps.toList) : Txt.split (Txt.join sBl ps) sBl = ps := TL.split_join (s := 32) (S := []) rfl (by decide +kernel) hne h
theorem split_nl {ps : List Str} (hne : ps ≠ []) (h : ∀ p ∈ ps, 10 ∉ p.cps.toList) : Txt.split (Txt.join sNl ps) sNl = ps := TL.split_join (s := 10) (S := []) rfl (by decide +kernel) hne h
theorem nil_or_snoc {α : Type} (l : List α) : l = [] ∨ ∃ m x, l = m ++ [x] := by
  rcases List.eq_nil_or_concat l with h | ⟨m, x, h⟩
  · exact .inl h
  · exact .inr ⟨m, x, by rw [h, List.concat_eq_append]⟩
theorem rs_enumK {K : PySem.W.Frag} {wi : TI} {g : TG} {tb u : TS} {D : Ends} {σ : L2.St} {H : Hp} (k : Int) (xs : List V) (P0 : Addr → Hp → Prop) (Pv : Addr → Nat → L2.St → Hp → Prop) (hw : ∀ R : It → Hp → Prop, (∀ a H1, P0 a H1 → R (IteK K a k) H1) → wi σ H R) (h0 : ∀ a H1, P0 a H1 → Pv a 0 σ H1)
    (hG : ∀ a j σ H, j ≤ xs.length → Pv a j σ H → SqL K H a xs) (turn : ∀ a j x σ H T, j < xs.length → Pv a j σ H → H T = none → xs[j]? = some x → g (.ref T) σ (upd H T (.tup [.int (k + (j : Nat)), x])) fun σ2 H2 => tb { D with nx := Pv a (j + 1), ct := Pv a (j + 1), bk := u D } σ2 H2)
    (done : ∀ a σ H, Pv a xs.length σ H → u D σ H) : tSeq (tFor wi g tb) u D σ H :=
  hw _ fun a H1 p => for_it (D := { D with nx := u D }) walk_enumK (Pv a) (h0 a H1 p) (hG a) (fun j x σ H H' hj hp ⟨T, xa, ya, ex, nT, eH, e1, e2⟩ => by
    subst ex eH
    obtain rfl : V.int (k + (j : Nat)) = xa := Option.some.inj e1
    exact turn a j ya σ H T hj hp nT e2) (done a)
section
variable {P : Program} {w : World} {K : PySem.W.Frag} {mg : Str → Option Value} {base : Heap}
theorem scIsName : FnScope ["value"] ["value"] (defScope sIsName) := ⟨rfl, rfl, rfl, by decide +kernel, rfl, by decide +kernel, by decide +kernel⟩
theorem ok_isname {f : Addr} {fd : FuncData} {k : Nat} (F : Fun K "is_name" "is_name" sIsName f fd) (B : Blt mg) (B3 : Blt3 mg) : FnOk P w K mg base CX0 (k + 1) f fd ["value"] spIsName := by
  refine F.ok scIsName (fun vs H Q E h => ?_) (fun cdv A outer s H vs Q E hr h => ?_)
  · obtain ⟨z, rfl, _⟩ := h
    rfl
  · obtain ⟨z, rfl, hz, q⟩ := h
    obtain ⟨t, gL⟩ := B3.lnm
    refine ⟨_, pss_one (ps_ret (pe_and (pe_callB call_isi (by rfl) B3.isi PyProof.Rows.boot_isinstance (pa_cons (pv 0) (pa_cons (pe_bltn (v := .ty "str") (by rfl) B3.str (by decide +kernel) rfl) pa_nil)))
      (pe_and (pe_cmpR op_le (pe_callB call_len_str (by rfl) B.len PySem.boot_len (pa_cons (pv 0) pa_nil)) (pe_glob (v := .int 8) (by rfl) gL ⟨_, rfl⟩) (nomark _))
      (pe_and (pe_m0 PySem.F.slot_str_isascii PySem.F.type_str_isascii mt_isascii (pv 0)) (pe_and (pe_m0 PySem.F.slot_str_isalpha PySem.F.type_str_isalpha mt_isalpha (pv 0)) (pe_one (pe_m0 PySem.F.slot_str_islower PySem.F.type_str_islower mt_islower (pv 0)))))))), ?_⟩
    refine ⟨.str z, rfl, .str z, .ty "str", .type "str", .type "str", true, rfl, .ty _, .base (.str z), kit_ty (by decide +kernel), true, rfl, ?_⟩
    refine ⟨.str z, rfl, z, rfl, Nat.le_of_lt (small1000 (by have := hz.2.1; omega)), _, _, rfl, rfl, true, congrArg V.bl (decide_eq_true (by have := hz.2.1; omega)), ?_⟩
    refine ⟨.str z, rfl, ⟨_, rfl⟩, z, rfl, rfl, trivial, true, congrArg V.bl (nm_ascii hz), ?_⟩
    refine ⟨.str z, rfl, ⟨_, rfl⟩, z, rfl, rfl, trivial, true, congrArg V.bl (nm_alpha hz), ?_⟩
    refine ⟨.str z, rfl, ⟨_, rfl⟩, z, rfl, rfl, trivial, ?_⟩
    rw [nm_lower hz]
    exact q
theorem scAsc : FnScope ["values", "one", "other"] ["values"] (defScope sAsc) := ⟨rfl, rfl, rfl, by decide +kernel, rfl, by decide +kernel, by decide +kernel⟩
theorem ok_asc {f : Addr} {fd : FuncData} {k : Nat} (F : Fun K "ascends" "ascends" sAsc f fd) (B3 : Blt3 mg) : FnOk P w K mg base CX0 (k + 1) f fd ["values"] (spAsc K) := by
  refine F.ok scAsc (fun vs H Q E h => ?_) (fun cdv A outer s H vs Q E hr h => ?_)
  · obtain ⟨p, zs, rfl, _⟩ := h
    rfl
  · obtain ⟨p, zs, rfl, hp, ha, hl, q⟩ := h
    refine ⟨_, pss_one (ps_ret (pe_callB (cr_all rfl) (by rfl) B3.all PyProof.Rows.boot_all (pa_cons (pe_lc (own := [("one", 1), ("other", 2)]) (g := gTup _ 2 (gCons (gName 1) (gCons (gName 2) gNil))) (tt := tYes) rfl scAsc.nd
        (RZ.pi_zipA (by rfl) B3.zip (pa_cons (pv 0) (pa_cons (pe_slice sl_tupA (pv 0) (po_some pe_int) po_none) pa_nil))) (blkOk_by (N := ["values", "one", "other"]) (sc := defScope sAsc) (by decide +kernel))
        (fun _ _ _ _ _ => pg_tup rfl (pgs_cons (pg_name (i := 1) scAsc.nd rfl (Or.inl rfl)) (pgs_cons (pg_name (i := 2) scAsc.nd rfl (Or.inl rfl)) pgs_nil))) (fun _ _ _ _ _ => pts_nil) (fun _ _ _ _ _ => pe_cmpR op_lt_str (pv 1) (pv 2) (nomark _))) pa_nil))), ?_⟩
    refine ⟨.ref p, rfl, .ref p, rfl, 1, rfl, p, zs.map V.str, rfl, hp, fun hw => ?_, fun hw b nb => ?_⟩
    · obtain ⟨H1, eH1⟩ : ∃ H1, H1 = H := ⟨H, rfl⟩
      have s1 : Same H H1 := by rw [eH1]; exact Same.refl H
      have hb : SqT K H1 p ((zs.map V.str).drop 1) := by
        have e0 : (zs.map V.str).length = 0 := by
          have := hw.1
          rw [show HT.sIx (zs.map V.str).length 0 (some 1) = min 1 (zs.map V.str).length from HT.sIx_nat _ 0 1] at this
          omega
        rw [List.length_eq_zero_iff.mp e0] at hp ⊢
        rw [eH1]; exact hp
      rw [← eH1]
      refine ⟨p, _, zs.map V.str, (zs.map V.str).drop 1, rfl, .inr ⟨sqT_same hp s1, hb, fun D hD => lc_it (walk_zipT rfl) (fun i H' => Same H H' ∧ Same H1 H' ∧ H' D = some (.lst ((List.replicate i true).map V.bl))) ⟨s1.trans (same_upd hD), same_upd hD, upd_same⟩ (fun i H' _ h => ⟨sqT_same hp h.1, sqT_same hb h.2.1⟩) ?_ ?_⟩⟩
      · rintro i x H' H'' hi ⟨sx, sx1, eD⟩ ⟨T, x1, x2, rfl, nT, rfl, g1, g2⟩
        obtain ⟨z1, h1, rfl⟩ := map_get g1
        have g2 : ((zs.map V.str).drop 1)[i]? = some x2 := g2
        rw [List.getElem?_drop] at g2
        obtain ⟨z2, h2, rfl⟩ := map_get g2
        refine ⟨T, [.str z1, .str z2], rfl, sqt_of upd_same, rfl, _, [.str z2], rfl, _, [], rfl, rfl, rfl, r_yes ?_⟩
        have hlt : z1.cps.toList < z2.cps.toList := asc_at ha h1 (by rw [Nat.add_comm] at h2; exact h2)
        have hi1 := (List.getElem?_eq_some_iff.mp h1).1
        refine ⟨.str z1, rfl, .str z2, rfl, z1, z2, rfl, rfl, _, (same_upd nT) _ _ eD, small1000 (by rw [List.length_map, List.length_replicate]; omega), ?_, ?_, ?_⟩
        · intro b o e
          rw [upd_ne (ne_of_none (s1 _ _ e) hD)]
          exact (same_upd nT) _ _ (sx _ _ e)
        · intro b o e
          rw [upd_ne (ne_of_none e hD)]
          exact (same_upd nT) _ _ (sx1 _ _ e)
        · rw [upd_same, decide_eq_true hlt, List.replicate_succ', List.map_append]; rfl
      · rintro H' ⟨sx, sx1, eD⟩
        refine ⟨D, _, rfl, sql_of eD, ?_⟩
        rw [all_rep]
        exact q H' sx
    · have s1 : Same H (upd H b (.tup (cutV (zs.map V.str) (some 1) none))) := same_upd nb
      have hb : SqT K (upd H b (.tup (cutV (zs.map V.str) (some 1) none))) b ((zs.map V.str).drop 1) := by
        rw [cut1] 
        exact sqt_of upd_same
      generalize (upd H b (.tup (cutV (zs.map V.str) (some 1) none))) = H1 at s1 hb ⊢
      refine ⟨p, _, zs.map V.str, (zs.map V.str).drop 1, rfl, .inr ⟨sqT_same hp s1, hb, fun D hD => lc_it (walk_zipT rfl) (fun i H' => Same H H' ∧ Same H1 H' ∧ H' D = some (.lst ((List.replicate i true).map V.bl))) ⟨s1.trans (same_upd hD), same_upd hD, upd_same⟩ (fun i H' _ h => ⟨sqT_same hp h.1, sqT_same hb h.2.1⟩) ?_ ?_⟩⟩
      · rintro i x H' H'' hi ⟨sx, sx1, eD⟩ ⟨T, x1, x2, rfl, nT, rfl, g1, g2⟩
        obtain ⟨z1, h1, rfl⟩ := map_get g1
        have g2 : ((zs.map V.str).drop 1)[i]? = some x2 := g2
        rw [List.getElem?_drop] at g2
        obtain ⟨z2, h2, rfl⟩ := map_get g2
        refine ⟨T, [.str z1, .str z2], rfl, sqt_of upd_same, rfl, _, [.str z2], rfl, _, [], rfl, rfl, rfl, r_yes ?_⟩
        have hlt : z1.cps.toList < z2.cps.toList := asc_at ha h1 (by rw [Nat.add_comm] at h2; exact h2)
        have hi1 := (List.getElem?_eq_some_iff.mp h1).1
        refine ⟨.str z1, rfl, .str z2, rfl, z1, z2, rfl, rfl, _, (same_upd nT) _ _ eD, small1000 (by rw [List.length_map, List.length_replicate]; omega), ?_, ?_, ?_⟩
        · intro b o e
          rw [upd_ne (ne_of_none (s1 _ _ e) hD)]
          exact (same_upd nT) _ _ (sx _ _ e)
        · intro b o e
          rw [upd_ne (ne_of_none e hD)]
          exact (same_upd nT) _ _ (sx1 _ _ e)
        · rw [upd_same, decide_eq_true hlt, List.replicate_succ', List.map_append]; rfl
      · rintro H' ⟨sx, sx1, eD⟩
        refine ⟨D, _, rfl, sql_of eD, ?_⟩
        rw [all_rep]
        exact q H' sx
end
end Hw

set_option Elab.async false
set_option linter.all false
set_option maxRecDepth 100000
set_option maxHeartbeats 4000000
namespace Hw
open PySem L2 PyProof.Rows
abbrev sIsLiv : Stmt := topS 27
abbrev sAreLiv : Stmt := topS 26
abbrev sCanCome : Stmt := topS 25
abbrev sCanStand : Stmt := topS 24
/-- for each place that ever came whether it lives, as it lies -/
def LivesAt (H : Hp) (d : Addr) (ds : List Deed) : Prop := H d = some (.dK (encF' (cameD ds) fun z => V.bl (decide (z ∈ liv ds))))
theorem LivesAt.get {H : Hp} {d : Addr} {ds : List Deed} (h : LivesAt H d ds) (z : Str) : DGet H d (.str z) (if z ∈ cameD ds then some (V.bl (decide (z ∈ liv ds))) else none) := by
  have := DGet.k (k := Sum.inr z) h
  rw [encF_val] at this
  exact this
def spIsLiv : Sp := fun vs H Q _ => ∃ (z : Str) (d : Addr) (ds : List Deed), vs = [.str z, .ref d] ∧ LivesAt H d ds ∧ Hist ds ∧ Q (.bl (decide (z ∈ liv ds))) H
def spAreLiv : Sp := fun vs H Q _ => ∃ (p d : Addr) (ts : List Str) (ds : List Deed), vs = [.ref p, .ref d] ∧ H p = some (.tup (ts.map V.str)) ∧ LivesAt H d ds ∧ Hist ds ∧ (∀ t ∈ ts, t ∈ liv ds) ∧ Asc ts ∧ ts.length ≤ 1000 ∧ ∀ H', Same H H' → Q (.bl true) H'
section
variable {P : Program} {w : World} {K : PySem.W.Frag} {mg : Str → Option Value} {base : Heap}
theorem scIsLiv : FnScope ["value", "lives"] ["value", "lives"] (defScope sIsLiv) := ⟨rfl, rfl, rfl, by decide +kernel, rfl, by decide +kernel, by decide +kernel⟩
theorem ok_isliv {f : Addr} {fd : FuncData} {k : Nat} (F : Fun K "is_living" "is_living" sIsLiv f fd) (B3 : Blt3 mg) : FnOk P w K mg base CX0 (k + 1) f fd ["value", "lives"] spIsLiv := by
  refine F.ok scIsLiv (fun vs H Q E h => ?_) (fun cdv A outer s H vs Q E hr h => ?_)
  · obtain ⟨z, d, ds, rfl, _⟩ := h
    rfl
  · obtain ⟨z, d, ds, rfl, hd, hH, q⟩ := h
    have hu := hu_of hr
    refine ⟨_, pss_one (ps_ret (pe_and (pe_callB call_isi (by rfl) B3.isi PyProof.Rows.boot_isinstance (pa_cons (pv 0) (pa_cons (pe_bltn (v := .ty "str") (by rfl) B3.str (by decide +kernel) rfl) pa_nil)))
      (pe_one (pe_dget2 hu (pv 1) (pv 0) pe_bl ⟨rfl, by rfl, by rfl, by rfl⟩)))), ?_⟩
    refine ⟨.str z, rfl, .str z, .ty "str", .type "str", .type "str", true, rfl, .ty _, .base (.str z), kit_ty (by decide +kernel), true, rfl, ?_⟩
    refine ⟨.ref d, rfl, d, rfl, .inl ⟨_, .inl hd⟩, .str z, rfl, _, hd.get z, ?_⟩
    by_cases h : z ∈ cameD ds
    · rw [if_pos h]; exact q
    · rw [if_neg h]
      rw [decide_eq_false (fun m => h (hH.liv_came z m))] at q
      exact q
theorem scAreLiv : FnScope ["value", "lives", "name"] ["value", "lives"] (defScope sAreLiv) := ⟨rfl, rfl, rfl, by decide +kernel, rfl, by decide +kernel, by decide +kernel⟩
theorem ok_areliv {f fI fA : Addr} {fd fdI fdA : FuncData} {k : Nat} (F : Fun K "are_living" "are_living" sAreLiv f fd) (B3 : Blt3 mg)
    (GI : FnOk P w K mg base CX0 k fI fdI ["value", "lives"] spIsLiv) (gI : mg "is_living" = some (.ref fI)) (kI : PySem.W.keepIn K (.ref fI) = true) (bI : Binds K fdI ["value", "lives"] [])
    (GA : FnOk P w K mg base CX0 k fA fdA ["values"] (spAsc K)) (gA : mg "ascends" = some (.ref fA)) (kA : PySem.W.keepIn K (.ref fA) = true) (bA : Binds K fdA ["values"] []) :
    FnOk P w K mg base CX0 (k + 1) f fd ["value", "lives"] spAreLiv := by
  refine F.ok scAreLiv (fun vs H Q E h => ?_) (fun cdv A outer s H vs Q E hr h => ?_)
  · obtain ⟨p, d, ts, ds, rfl, _⟩ := h
    rfl
  · obtain ⟨p, d, ts, ds, rfl, ep, hd, hH, hts, hta, hl, q⟩ := h
    have hu := hu_of hr
    refine ⟨_, pss_one (ps_ret (pe_and (pe_callB call_isi (by rfl) B3.isi PyProof.Rows.boot_isinstance (pa_cons (pv 0) (pa_cons (pe_bltn (v := .ty "tuple") (by rfl) B3.tuple (by decide +kernel) rfl) pa_nil)))
      (pe_and (pe_callB (cr_all rfl) (by rfl) B3.all PyProof.Rows.boot_all (pa_cons (pe_lc (own := [("name", 2)]) (g := gName 2) (tt := tYes) (te := tCall spIsLiv [] E0 (tCons (tVar 2) (tCons (tVar 1) tNil))) rfl scAreLiv.nd (pi_tup (pv 0))
          (blkOk_by (N := ["value", "lives", "name"]) (sc := defScope sAreLiv) (by decide +kernel)) (fun _ _ _ _ _ => pg_name (i := 2) scAreLiv.nd rfl (Or.inl rfl)) (fun _ _ _ _ _ => pts_nil)
          (fun _ _ _ _ _ => pe_call GI hr (by rfl) gI kI bI .nil pass0 (pa_cons (pv 2) (pa_cons (pv 1) pa_nil)))) pa_nil))
      (pe_one (pe_call GA hr (by rfl) gA kA bA .nil pass0 (pa_cons (pv 0) pa_nil)))))), ?_⟩
    refine ⟨.ref p, rfl, .ref p, .ty "tuple", .type "tuple", .type "tuple", true, rfl, .ty _, .base (.tup ep), kit_ty (by decide +kernel), true, rfl, ?_⟩
    refine ⟨.ref p, rfl, p, rfl, ⟨_, sqt_of ep⟩, fun D nD => lc_tup (xs := ts.map V.str) (fun i H' => Same H H' ∧ H' D = some (.lst ((List.replicate i true).map V.bl))) ⟨same_upd nD, upd_same⟩ (fun i H' _ h => sqt_of (h.1 _ _ ep)) ?_ ?_⟩
    · rintro i x H' hx ⟨sx, eD⟩
      obtain ⟨z, hz, rfl⟩ := map_get hx
      have hi := (List.getElem?_eq_some_iff.mp hz).1
      refine ⟨rfl, r_yes ?_⟩
      refine ⟨.str z, rfl, .ref d, rfl, z, d, ds, rfl, sx _ _ hd, hH, ?_⟩
      rw [decide_eq_true (hts z (List.mem_of_getElem? hz))]
      refine ⟨_, eD, smallM (by rw [List.length_map, List.length_replicate]; omega), fun b o e => ?_, ?_⟩
      · rw [upd_ne (ne_of_none e nD)]; exact sx _ _ e
      · rw [upd_same, List.replicate_succ', List.map_append]; rfl
    · rintro H' ⟨sx, eD⟩
      refine ⟨D, _, rfl, sql_of eD, ?_⟩
      rw [all_rep]
      refine ⟨true, rfl, ?_⟩
      exact ⟨.ref p, rfl, p, ts, rfl, sqt_of (sx _ _ ep), hta, hl, fun H2 s2 => q H2 (sx.trans s2)⟩
end
end Hw

set_option Elab.async false
set_option linter.all false
set_option maxRecDepth 100000
set_option maxHeartbeats 4000000
namespace Hw
open PySem L2 PyProof.Rows
theorem snoc_get {α : Type} (l : List α) (x : α) : (l ++ [x])[l.length]? = some x := by simp
theorem take_len {α : Type} (l : List α) (x : α) : (l ++ [x]).take l.length = l := by simp
theorem Hist.last_come {ds : List Deed} {n : Str} {ts : List Str} (h : Hist (ds ++ [.come n ts])) : Nm n ∧ n ∉ cameD ds ∧ Asc ts ∧ ∀ t ∈ ts, t ∈ liv ds := by
  have := h.come_at (snoc_get ds (.come n ts))
  rw [take_len] at this
  exact this
theorem Hist.last_die {ds : List Deed} {n : Str} (h : Hist (ds ++ [.die n])) : n ∈ liv ds := by
  have := h.die_at (snoc_get ds (.die n))
  rw [take_len] at this
  exact this
def spCanCome : Sp := fun vs H Q _ => ∃ (n : Str) (tq d : Addr) (ts : List Str) (ds : List Deed), vs = [.str n, .ref tq, .ref d] ∧ H tq = some (.tup (ts.map V.str)) ∧ LivesAt H d ds ∧ Hist (ds ++ [.come n ts]) ∧ ds.length < 200 ∧ ∀ H', Same H H' → Q (.bl true) H'
def spCanStand : Sp := fun vs H Q _ => ∃ (q d : Addr) (e : Deed) (ds : List Deed) (m : Nat), vs = [.ref q, .ref d, .int m] ∧ DeedAt H q e ∧ LivesAt H d ds ∧ Hist (ds ++ [e]) ∧ ds.length < 200 ∧ m < 400 ∧ ∀ H', Same H H' → Q (.bl true) H'
section
variable {P : Program} {w : World} {K : PySem.W.Frag} {mg : Str → Option Value} {base : Heap}
theorem scCanCome : FnScope ["name", "ties", "lives"] ["name", "ties", "lives"] (defScope sCanCome) := ⟨rfl, rfl, rfl, by decide +kernel, rfl, by decide +kernel, by decide +kernel⟩
theorem ok_cancome {f fN fA : Addr} {fd fdN fdA : FuncData} {k : Nat} (F : Fun K "can_come" "can_come" sCanCome f fd) (B : Blt mg) (B3 : Blt3 mg)
    (GN : FnOk P w K mg base CX0 k fN fdN ["value"] spIsName) (gN : mg "is_name" = some (.ref fN)) (kN : PySem.W.keepIn K (.ref fN) = true) (bN : Binds K fdN ["value"] [])
    (GA : FnOk P w K mg base CX0 k fA fdA ["value", "lives"] spAreLiv) (gA : mg "are_living" = some (.ref fA)) (kA : PySem.W.keepIn K (.ref fA) = true) (bA : Binds K fdA ["value", "lives"] []) :
    FnOk P w K mg base CX0 (k + 1) f fd ["name", "ties", "lives"] spCanCome := by
  refine F.ok scCanCome (fun vs H Q E h => ?_) (fun cdv A outer s H vs Q E hr h => ?_)
  · obtain ⟨n, tq, d, ts, ds, rfl, _⟩ := h
    rfl
  · obtain ⟨n, tq, d, ts, ds, rfl, et, hd, hH, hl, q⟩ := h
    have hu := hu_of hr
    obtain ⟨t, gL⟩ := B3.mst
    refine ⟨_, pss_cons (ps_if (PW.pt (pw_or (pt_not (pt_val (pe_call GN hr (by rfl) gN kN bN .nil pass0 (pa_cons (pv 0) pa_nil)))) (pw_or (pt_cmp (pc_din hu (pv 0) (pv 2))) (pw_or1 (pt_cmpR op_ge (pe_callB call_lenD (by rfl) B.len PySem.boot_len (pa_cons (pv 2) pa_nil)) (pe_glob (v := .int 200) (by rfl) gL ⟨_, rfl⟩) (nomark _)))))) (pss_one (ps_ret pe_bl)) pss_nil)
      (pss_one (ps_ret (pe_call GA hr (by rfl) gA kA bA .nil pass0 (pa_cons (pv 1) (pa_cons (pv 2) pa_nil))))), ?_⟩
    obtain ⟨h1, h2, h3, h4⟩ := hH.last_come
    have h0 := hH.pre
    have hcl := came_len ds
    have hev := (hH.each _ (List.mem_append_right _ List.mem_cons_self)).2.1
    have htl : ts.length ≤ (ds ++ [Deed.come n ts]).length := hev
    rw [List.length_append] at htl
    have h1l : ([Deed.come n ts] : List Deed).length = 1 := rfl
    refine rs_no ?_
    refine ⟨.str n, rfl, n, rfl, h1, true, rfl, ?_⟩
    refine ⟨.str n, rfl, .ref d, rfl, d, _, rfl, hd.get n, false, ?_, ?_⟩
    · rw [if_neg h2]; rfl
    refine ⟨.ref d, rfl, d, _, rfl, hd, _, _, rfl, rfl, false, congrArg V.bl (decide_eq_false (by rw [encF_len]; omega)), ?_⟩
    exact ⟨.ref tq, rfl, .ref d, rfl, tq, d, ts, ds, rfl, et, hd, h0, h4, h3, by omega, q⟩
theorem scCanStand : FnScope ["value", "lives", "many"] ["value", "lives", "many"] (defScope sCanStand) := ⟨rfl, rfl, rfl, by decide +kernel, rfl, by decide +kernel, by decide +kernel⟩
theorem ok_canstand {f fC fI : Addr} {fd fdC fdI : FuncData} {k : Nat} (F : Fun K "can_stand" "can_stand" sCanStand f fd) (B : Blt mg) (B3 : Blt3 mg) (hM : ∃ t, mg "MOST_DEEDS" = some (.int 400 t))
    (GC : FnOk P w K mg base CX0 k fC fdC ["name", "ties", "lives"] spCanCome) (gC : mg "can_come" = some (.ref fC)) (kC : PySem.W.keepIn K (.ref fC) = true) (bC : Binds K fdC ["name", "ties", "lives"] [])
    (GI : FnOk P w K mg base CX0 k fI fdI ["value", "lives"] spIsLiv) (gI : mg "is_living" = some (.ref fI)) (kI : PySem.W.keepIn K (.ref fI) = true) (bI : Binds K fdI ["value", "lives"] []) :
    FnOk P w K mg base CX0 (k + 1) f fd ["value", "lives", "many"] spCanStand := by
  refine F.ok scCanStand (fun vs H Q E h => ?_) (fun cdv A outer s H vs Q E hr h => ?_)
  · obtain ⟨q, d, e, ds, m, rfl, _⟩ := h
    rfl
  · obtain ⟨qd, d, e, ds, m, rfl, ed, hd, hH, hl, hm, q⟩ := h
    have hu := hu_of hr
    obtain ⟨t, gL⟩ := hM
    refine ⟨_, pss_cons (ps_if (PW.pt (pw_or (pt_cmpR op_ge (pv 2) (pe_glob (v := .int 400) (by rfl) gL ⟨_, rfl⟩) (nomark _)) (pw_or1 (pt_not (pt_val (pe_callB call_isi (by rfl) B3.isi PyProof.Rows.boot_isinstance (pa_cons (pv 0) (pa_cons (pe_bltn (v := .ty "tuple") (by rfl) B3.tuple (by decide +kernel) rfl) pa_nil)))))))) (pss_one (ps_ret pe_bl)) pss_nil)
      (pss_cons (ps_if (PW.pt (pw_and (pt_cmpR op_eq (pe_callB call_len_seq (by rfl) B.len PySem.boot_len (pa_cons (pv 0) pa_nil)) pe_int (nomark _)) (pw_and1 (pt_cmpR op_eq (pe_ix ix_tup (pv 0) pe_int (fun _ _ => rfl)) pe_str (nomark _))))) (pss_one (ps_ret (pe_call GC hr (by rfl) gC kC bC .nil pass0 (pa_cons (pe_ix ix_tup (pv 0) pe_int (fun _ _ => rfl)) (pa_cons (pe_ix ix_tup (pv 0) pe_int (fun _ _ => rfl)) (pa_cons (pv 1) pa_nil)))))) pss_nil)
      (pss_cons (ps_if (PW.pt (pw_and (pt_cmpR op_eq (pe_callB call_len_seq (by rfl) B.len PySem.boot_len (pa_cons (pv 0) pa_nil)) pe_int (nomark _)) (pw_and1 (pt_cmpR op_eq (pe_ix ix_tup (pv 0) pe_int (fun _ _ => rfl)) pe_str (nomark _))))) (pss_one (ps_ret (pe_call GI hr (by rfl) gI kI bI .nil pass0 (pa_cons (pe_ix ix_tup (pv 0) pe_int (fun _ _ => rfl)) (pa_cons (pv 1) pa_nil))))) pss_nil)
      (pss_one (ps_ret pe_bl)))), ?_⟩
    have h0 := hH.pre
    cases e with
    | come n ts =>
      obtain ⟨tq, e1, e2⟩ := ed
      refine rs_no ?_
      refine ⟨_, rfl, _, _, rfl, rfl, false, congrArg V.bl (decide_eq_false (by omega)), ?_⟩
      refine ⟨.ref qd, rfl, .ref qd, .ty "tuple", .type "tuple", .type "tuple", true, rfl, .ty _, .base (.tup e1), kit_ty (by decide +kernel), true, rfl, ?_⟩
      refine rs_no ?_
      refine ⟨.ref qd, rfl, qd, _, rfl, .inr (sqt_of e1), rfl, true, congrArg V.bl (decide_eq_true rfl), ?_⟩
      refine ⟨.ref qd, rfl, qd, _, 0, _, rfl, rfl, sqt_of e1, rfl, rfl, true, congrArg V.bl (word_come (.come n ts)), ?_⟩
      exact ⟨.ref qd, rfl, qd, _, 1, _, rfl, rfl, sqt_of e1, rfl, .ref qd, rfl, qd, _, 2, _, rfl, rfl, sqt_of e1, rfl, .ref d, rfl, n, tq, d, ts, ds, rfl, e2, hd, hH, hl, q⟩
    | die n =>
      have e1 : H qd = some (.tup [.str sDie, .str n]) := ed
      refine rs_no ?_
      refine ⟨_, rfl, _, _, rfl, rfl, false, congrArg V.bl (decide_eq_false (by omega)), ?_⟩
      refine ⟨.ref qd, rfl, .ref qd, .ty "tuple", .type "tuple", .type "tuple", true, rfl, .ty _, .base (.tup e1), kit_ty (by decide +kernel), true, rfl, ?_⟩
      refine rs_no2 (fun _ => False) (fun H' => H' = H) (fun Q1 qt qf => ⟨.ref qd, rfl, qd, _, rfl, .inr (sqt_of e1), rfl, false, congrArg V.bl (decide_eq_false (fun z => absurd (show (2 : Int) = 3 by injection z) (by decide))), qf _ rfl⟩) (fun _ h => h.elim) (fun H' e => ?_)
      subst e
      refine rs_no ?_
      refine ⟨.ref qd, rfl, qd, _, rfl, .inr (sqt_of e1), rfl, true, congrArg V.bl (decide_eq_true rfl), ?_⟩
      refine ⟨.ref qd, rfl, qd, _, 0, _, rfl, rfl, sqt_of e1, rfl, rfl, true, congrArg V.bl (word_die (.die n)), ?_⟩
      refine ⟨.ref qd, rfl, qd, _, 1, _, rfl, rfl, sqt_of e1, rfl, .ref d, rfl, n, d, ds, rfl, hd, h0, ?_⟩
      rw [decide_eq_true hH.last_die]
      exact q _ (Same.refl _)
end
end Hw

set_option Elab.async false
set_option linter.all false
set_option maxRecDepth 100000
set_option maxHeartbeats 4000000
namespace Hw
open PySem L2 PyProof.Rows
abbrev sReadD1 : Stmt := topS 21
/-- what a line of a deed keeps -/
structure FineD (e : Deed) : Prop where
  nm : Nm e.name
  ts : ∀ t ∈ e.ties, Nm t
  few : e.ties.length ≤ 100
theorem FineD.of {ds : List Deed} (h : Hist ds) (hl : ds.length ≤ 100) {e : Deed} (he : e ∈ ds) : FineD e := by
  obtain ⟨a, b, c, _⟩ := h.each e he
  exact ⟨a, c, by omega⟩
theorem word_no (e : Deed) {c : Nat} (hc : c < 97) : c ∉ e.word.cps.toList := by
  have h : ∀ z : Str, (z.cps.toList.all fun x => decide (97 ≤ x)) = true → c ∉ z.cps.toList := fun z h m => by
    have := of_decide_eq_true (List.all_eq_true.mp h c m)
    omega
  cases e with
  | come n ts => exact h sCome (by decide +kernel)
  | die n => exact h sDie (by decide +kernel)
theorem FineD.no {e : Deed} (f : FineD e) {c : Nat} (hc : c < 97) : ∀ p ∈ e.word :: e.name :: e.ties, c ∉ p.cps.toList := fun p hp => by
  rcases List.mem_cons.mp hp with rfl | hp
  · exact word_no e hc
  · rcases List.mem_cons.mp hp with rfl | hp
    · exact nm_no f.nm hc
    · exact nm_no (f.ts p hp) hc
theorem FineD.split {e : Deed} (f : FineD e) : Txt.split (deedLine e) sBl = e.word :: e.name :: e.ties := split_bl (by simp) (f.no (by decide))
theorem FineD.len {e : Deed} (f : FineD e) : (deedLine e).length ≤ 1000 := by
  refine Nat.le_trans (join_len _ _) ?_
  have hw : e.word.length ≤ 8 := by
    cases e with
    | come n ts => exact show sCome.length ≤ 8 by decide +kernel
    | die n => exact show sDie.length ≤ 8 by decide +kernel
  have hs := sum_le (ps := e.word :: e.name :: e.ties) (b := 8) fun p hp => by
    rcases List.mem_cons.mp hp with rfl | hp
    · exact hw
    · rcases List.mem_cons.mp hp with rfl | hp
      · exact f.nm.2.1
      · exact (f.ts p hp).2.1
  have e1 : sBl.length = 1 := by decide +kernel
  have el : (e.word :: e.name :: e.ties).length = e.ties.length + 2 := rfl
  have := f.few
  rw [el] at hs ⊢
  rw [e1]
  omega
def spReadD1 : Sp := fun vs H Q _ => ∃ e : Deed, vs = [.str (deedLine e)] ∧ FineD e ∧ ∀ q H', Same H H' → H q = none → DeedAt H' q e → Q (.ref q) H'
section
variable {P : Program} {w : World} {K : PySem.W.Frag} {mg : Str → Option Value} {base : Heap}
theorem scReadD1 : FnScope ["line", "words"] ["line"] (defScope sReadD1) := ⟨rfl, rfl, rfl, by decide +kernel, rfl, by decide +kernel, by decide +kernel⟩
theorem ok_readd1 {f : Addr} {fd : FuncData} {k : Nat} (F : Fun K "read_deed" "read_deed" sReadD1 f fd) (B : Blt mg) (B3 : Blt3 mg) : FnOk P w K mg base CX0 (k + 1) f fd ["line"] spReadD1 := by
  refine F.ok scReadD1 (fun vs H Q E h => ?_) (fun cdv A outer s H vs Q E hr h => ?_)
  · obtain ⟨e, rfl, _⟩ := h
    rfl
  · obtain ⟨e, rfl, fe, q⟩ := h
    refine ⟨_, pss_cons (ps_set (i := 1) scReadD1.nd rfl (.inl rfl) (pe_split (pv 0) pe_str))
      (pss_cons (ps_if (PW.pt (pw_and (pt_cmpR op_eq (pe_ix ix_list (pv 1) pe_int (fun _ _ => rfl)) pe_str (nomark _)) (pw_and1 (pt_cmpR op_gt (pe_callB call_len_seq (by rfl) B.len PySem.boot_len (pa_cons (pv 1) pa_nil)) pe_int (nomark _)))))
        (pss_one (ps_ret (pe_tup (pa_cons pe_str (pa_cons (pe_ix ix_list (pv 1) pe_int (fun _ _ => rfl)) (pa_cons (pe_callTy call_tuple_of (by rfl) B3.tuple PyProof.Rows.boot_tuple (pa_cons (pe_slice sl_list (pv 1) (po_some pe_int) po_none) pa_nil)) pa_nil)))))) pss_nil)
      (pss_one (ps_ret (pe_callTy call_tuple_of (by rfl) B3.tuple PyProof.Rows.boot_tuple (pa_cons (pv 1) pa_nil))))), ?_⟩
    have hln := fe.len
    refine rs_set ?_
    refine ⟨.str (deedLine e), rfl, ⟨_, rfl⟩, deedLine e, sBl, rfl, rfl, by decide +kernel, Nat.le_of_lt (smallM (by omega)), fun wl nwl => ?_⟩
    rw [fe.split]
    have s1 := same_upd (o := .lst ((e.word :: e.name :: e.ties).map V.str)) nwl
    have ew : (upd H wl (.lst ((e.word :: e.name :: e.ties).map V.str))) wl = some (.lst (.str e.word :: .str e.name :: e.ties.map V.str)) := upd_same
    generalize (upd H wl (.lst ((e.word :: e.name :: e.ties).map V.str))) = H1 at s1 ew ⊢
    cases e with
    | come n ts =>
      have ew : H1 wl = some (.lst (.str sCome :: .str n :: ts.map V.str)) := ew
      refine rs_no ?_
      refine ⟨.ref wl, rfl, wl, _, 0, .str sCome, rfl, rfl, sql_of ew, atI_nat (j := 0) rfl, rfl, true, congrArg V.bl (word_come (.come n ts)), ?_⟩
      refine ⟨.ref wl, rfl, wl, _, rfl, .inl (sql_of ew), _, _, rfl, rfl, true, congrArg V.bl (decide_eq_true (by rw [List.length_cons, List.length_cons]; omega)), ?_⟩
      refine ⟨.ref wl, rfl, wl, _, 1, .str n, rfl, rfl, sql_of ew, atI_nat (j := 1) rfl, .ref wl, rfl, 2, rfl, wl, _, rfl, sql_of ew, fun c nc => ⟨c, _, rfl, .inl ⟨sql_of upd_same, fun tp ntp => ⟨by show 3 ≤ sizeLine; decide, fun p np => ?_⟩⟩⟩⟩
      rw [show cutV (V.str sCome :: V.str n :: ts.map V.str) (some 2) none = ts.map V.str from cut_from _ 2] at ntp np ⊢
      have s2 := ((same_upd (o := .lst (ts.map V.str)) nc).trans (same_upd (o := .tup (ts.map V.str)) ntp)).trans (same_upd (o := .tup [.str (Str.ofString "come"), .str n, .ref tp]) np)
      have hp0 : H p = none := ((s1.trans (same_upd (o := .lst (ts.map V.str)) nc)).trans (same_upd (o := .tup (ts.map V.str)) ntp)).free np
      exact q p _ (s1.trans s2) hp0 ⟨tp, upd_same, (same_upd np) _ _ upd_same⟩
    | die n =>
      have ew : H1 wl = some (.lst [.str sDie, .str n]) := ew
      refine rs_no2 (fun _ => False) (fun H' => H' = H1) (fun Q1 qt qf => ⟨.ref wl, rfl, wl, _, 0, .str sDie, rfl, rfl, sql_of ew, rfl, rfl, false, congrArg V.bl (word_come (.die n)), qf _ rfl⟩) (fun _ h => h.elim) (fun H' e => ?_)
      subst e
      refine r_ret ?_
      refine ⟨.ref wl, rfl, wl, _, rfl, .inl ⟨sql_of ew, fun p np => ?_⟩⟩
      exact q p _ (s1.trans (same_upd np)) (s1.free np) (show DeedAt _ p (.die n) from upd_same)
end
end Hw

set_option Elab.async false
set_option linter.all false
set_option maxRecDepth 100000
set_option maxHeartbeats 4000000
namespace Hw
open PySem L2 PyProof.Rows
abbrev sLivesB : Stmt := topS 22
abbrev sNamesT : Stmt := topS 23
/-! who ever came lives or is dead -/
theorem Hist.dead_came {ds : List Deed} (h : Hist ds) : ∀ z ∈ deadD ds, z ∈ cameD ds := by
  induction h with
  | nil => intro z hz; cases hz
  | come h nm new asc sub ih =>
    intro z hz
    rw [dead_snoc] at hz
    rw [came_snoc]
    rcases List.mem_append.mp hz with hz | hz
    · exact List.mem_append_left _ (ih z hz)
    · cases hz
  | die h lv ih =>
    intro z hz
    rw [dead_snoc] at hz
    rw [came_snoc]
    rcases List.mem_append.mp hz with hz | hz
    · exact List.mem_append_left _ (ih z hz)
    · rw [List.mem_singleton.mp (show z ∈ [_] from hz)]
      exact List.mem_append_left _ (h.liv_came _ lv)
theorem Hist.dead_no {ds : List Deed} (h : Hist ds) : ∀ z ∈ deadD ds, z ∉ liv ds := by
  induction h with
  | nil => intro z hz; cases hz
  | come h nm new asc sub ih =>
    intro z hz m
    rw [dead_snoc] at hz
    rw [liv_snoc] at m
    rcases List.mem_append.mp hz with hz | hz
    · rcases List.mem_append.mp m with m | m
      · exact ih z hz m
      · rw [List.mem_singleton.mp m] at hz
        exact new (h.dead_came _ hz)
    · cases hz
  | @die ds n h lv ih =>
    intro z hz m
    rw [dead_snoc] at hz
    rw [liv_snoc] at m
    obtain ⟨m1, m2⟩ := List.mem_filter.mp (show z ∈ (liv ds).filter fun y => decide (y ≠ n) from m)
    rcases List.mem_append.mp hz with hz | hz
    · exact ih z hz m1
    · exact of_decide_eq_true m2 (List.mem_singleton.mp (show z ∈ [n] from hz))
theorem Hist.came_or {ds : List Deed} (h : Hist ds) : ∀ z ∈ cameD ds, z ∈ liv ds ∨ z ∈ deadD ds := by
  induction h with
  | nil => intro z hz; cases hz
  | come h nm new asc sub ih =>
    intro z hz
    rw [came_snoc] at hz
    rw [liv_snoc, dead_snoc]
    rcases List.mem_append.mp hz with hz | hz
    · rcases ih z hz with m | m
      · exact .inl (List.mem_append_left _ m)
      · exact .inr (List.mem_append_left _ m)
    · exact .inl (List.mem_append_right _ hz)
  | @die ds n h lv ih =>
    intro z hz
    rw [came_snoc] at hz
    rw [liv_snoc, dead_snoc]
    rcases List.mem_append.mp hz with hz | hz
    · by_cases e : z = n
      · exact .inr (List.mem_append_right _ (by rw [e]; exact List.mem_cons_self))
      · rcases ih z hz with m | m
        · exact .inl (List.mem_filter.mpr ⟨m, decide_eq_true e⟩)
        · exact .inr (List.mem_append_left _ m)
    · cases hz
theorem Hist.dead_nodup {ds : List Deed} (h : Hist ds) : (deadD ds).Nodup := by
  induction h with
  | nil => exact List.nodup_nil
  | come h nm new asc sub ih =>
    rw [dead_snoc]
    show (_ ++ []).Nodup
    rw [List.append_nil]; exact ih
  | @die ds n h lv ih =>
    rw [dead_snoc]
    show (deadD ds ++ [n]).Nodup
    rw [List.nodup_append]
    exact ⟨ih, by simp, fun x hx y hy e => h.dead_no x hx (by rw [e, List.mem_singleton.mp hy]; exact lv)⟩
/-- those of all that ever came that live, or that do not -/
theorem Hist.sorted_part {ds : List Deed} (h : Hist ds) (b : Bool) : sortS ((cameD ds).filter fun z => decide (decide (z ∈ liv ds) = b)) = sortS (if b = true then liv ds else deadD ds) := by
  refine sortS_of_perm ((List.perm_ext_iff_of_nodup (h.came_nodup.filter _) ?_).mpr fun z => ?_)
  · cases b
    · exact h.dead_nodup
    · exact h.liv_nodup
  · rw [List.mem_filter, decide_eq_true_iff]
    cases b with
    | true =>
      rw [if_pos rfl, decide_eq_true_iff]
      exact ⟨fun m => m.2, fun m => ⟨h.liv_came z m, m⟩⟩
    | false =>
      rw [if_neg Bool.false_ne_true, decide_eq_false_iff_not]
      exact ⟨fun m => (h.came_or z m.1).resolve_left m.2, fun m => ⟨h.dead_came z m, h.dead_no z m⟩⟩
theorem lives_step {ds : List Deed} {e : Deed} (h : Hist (ds ++ [e])) : putK (encF' (cameD ds) fun z => V.bl (decide (z ∈ liv ds))) (Sum.inr e.name : Key) (.bl e.isCome) = encF' (cameD (ds ++ [e])) fun z => V.bl (decide (z ∈ liv (ds ++ [e]))) := by
  cases e with
  | come n ts =>
    obtain ⟨_, hn, _, _⟩ := h.last_come
    show putK _ (Sum.inr n : Key) (.bl true) = _
    rw [encF_new hn, came_snoc, liv_snoc]
    refine encF_congr fun y _ => ?_
    show (if y = n then V.bl true else V.bl (decide (y ∈ liv ds))) = V.bl (decide (y ∈ liv ds ++ [n]))
    by_cases e : y = n
    · subst e
      rw [if_pos rfl, decide_eq_true (List.mem_append_right _ List.mem_cons_self)]
    · rw [if_neg e]
      congr 1
      rw [decide_eq_decide, List.mem_append, List.mem_singleton]
      simp [e]
  | die n =>
    have hl := h.last_die
    show putK _ (Sum.inr n : Key) (.bl false) = _
    rw [encF_old (h.pre.liv_came n hl), came_snoc, liv_snoc]
    show encF' (cameD ds) _ = encF' (cameD ds ++ []) _
    rw [List.append_nil]
    refine encF_congr fun y _ => ?_
    show (if y = n then V.bl false else V.bl (decide (y ∈ liv ds))) = V.bl (decide (y ∈ (liv ds).filter fun z => decide (z ≠ n)))
    by_cases e : y = n
    · have hno : n ∉ (liv ds).filter fun z => decide (z ≠ n) := fun m => of_decide_eq_true (p := n ≠ n) (List.mem_filter.mp m).2 rfl
      rw [e, if_pos rfl, decide_eq_false hno]
    · rw [if_neg e]
      congr 1
      rw [decide_eq_decide, List.mem_filter, decide_eq_true_iff]
      exact ⟨fun m => ⟨m, e⟩, fun m => m.1⟩
/-- the tuple of deeds as it lies -/
def DeedsT (H : Hp) (p : Addr) (ds : List Deed) : Prop := ∃ qs : List Addr, H p = some (.tup (qs.map V.ref)) ∧ Paired (DeedAt H) qs ds
theorem DeedsT.keep {H H' : Hp} {p : Addr} {ds : List Deed} (h : DeedsT H p ds) (s : Same H H') : DeedsT H' p ds := by
  obtain ⟨qs, h1, h2⟩ := h
  exact ⟨qs, s _ _ h1, paired_mono (fun q d e => e.keep s) h2⟩
theorem LivesAt.keep {H H' : Hp} {d : Addr} {ds : List Deed} (h : LivesAt H d ds) (s : Same H H') : LivesAt H' d ds := s _ _ h
def spLivesB : Sp := fun vs H Q _ => ∃ (p : Addr) (ds : List Deed), vs = [.ref p] ∧ DeedsT H p ds ∧ Hist ds ∧ ds.length ≤ 1000 ∧ ∀ d H', Same H H' → H d = none → LivesAt H' d ds → Q (.ref d) H'
section
variable {P : Program} {w : World} {K : PySem.W.Frag} {mg : Str → Option Value} {base : Heap}
theorem scLivesB : FnScope ["deeds", "lives", "deed"] ["deeds"] (defScope sLivesB) := ⟨rfl, rfl, rfl, by decide +kernel, rfl, by decide +kernel, by decide +kernel⟩
theorem ok_livesb {f : Addr} {fd : FuncData} {k : Nat} (F : Fun K "lives_behind" "lives_behind" sLivesB f fd) : FnOk P w K mg base CX0 (k + 1) f fd ["deeds"] spLivesB := by
  refine F.ok scLivesB (fun vs H Q E h => ?_) (fun cdv A outer s H vs Q E hr h => ?_)
  · obtain ⟨p, ds, rfl, _⟩ := h
    rfl
  · obtain ⟨p, ds, rfl, ⟨qs, e1, e2⟩, hH, hl, q⟩ := h
    have hu := hu_of hr
    refine ⟨_, pss_cons (ps_set (i := 1) scLivesB.nd rfl (.inl rfl) pe_dnewK)
      (pss_cons (ps_for PassesOwn.never rfl (pi_tup (pv 0)) (pg_name (i := 2) scLivesB.nd rfl (.inl rfl))
        (pss_one (ps_dput hu (pv 1) (pe_ix ix_tup (pv 2) pe_int (fun _ _ => rfl)) (pe_cmpR op_eq (pe_ix ix_tup (pv 2) pe_int (fun _ _ => rfl)) pe_str (nomark _)) rfl)))
      (pss_one (ps_ret (pv 1)))), ?_⟩
    refine rs_set ?_
    intro d nd
    refine rs_tup p (qs.map V.ref) (fun Q1 q1 => ⟨_, rfl, q1⟩) (fun i σ' H' => ∃ o2, σ' = [some (.ref p), some (.ref d), o2] ∧ Same H H' ∧ LivesAt H' d (ds.take i)) ⟨_, rfl, same_upd nd, upd_same⟩ (fun i σ' H' _ ⟨_, _, sx, _⟩ => sqt_of (sx _ _ e1)) ?_ ?_
    · rintro i x σ' H' hx ⟨o2, rfl, sx, eD⟩
      obtain ⟨qd, hq, rfl⟩ := map_get hx
      obtain ⟨e, he, ed⟩ := paired_get e2 hq
      obtain ⟨more, em⟩ := (ed.keep sx).two (K := K)
      have hcl := hH.came_take i
      have et : ds.take (i + 1) = ds.take i ++ [e] := take_snoc he
      have hH1 : Hist (ds.take i ++ [e]) := by rw [← et]; exact hH.take (i + 1)
      refine r_gname ?_
      refine ⟨.ref qd, rfl, qd, _, 0, .str e.word, rfl, rfl, sqt_of em, atI_nat (j := 0) rfl, rfl, .ref d, rfl, .ref qd, rfl, qd, _, 1, .str e.name, rfl, rfl, sqt_of em, atI_nat (j := 1) rfl, d, _, rfl, DPut.k (k := Sum.inr e.name) eD (smallM (by rw [encF_len]; omega)), _, rfl, fun b o eb => ?_, ?_⟩
      · rw [upd_ne (ne_of_none eb nd)]; exact sx _ _ eb
      · show (upd _ d _) d = _
        rw [upd_same, et, word_come e, lives_step hH1]
    · rintro σ' H' ⟨o2, rfl, sx, eD⟩
      rw [List.length_map, Paired.length e2, List.take_length] at eD
      exact ⟨.ref d, rfl, q d H' sx nd eD⟩
end
end Hw

set_option Elab.async false
set_option linter.all false
set_option maxRecDepth 100000
set_option maxHeartbeats 4000000
namespace Hw
open PySem L2 PyProof.Rows
def spNamesT : Sp := fun vs H Q _ => ∃ (b : Bool) (d : Addr) (ds : List Deed), vs = [.bl b, .ref d] ∧ LivesAt H d ds ∧ Hist ds ∧ ds.length ≤ 1000 ∧ ∀ p H', Same H H' → H' p = some (.tup ((sortS (if b = true then liv ds else deadD ds)).map V.str)) → Q (.ref p) H'
section
variable {P : Program} {w : World} {K : PySem.W.Frag} {mg : Str → Option Value} {base : Heap}
theorem scNamesT : FnScope ["live", "lives", "name"] ["live", "lives"] (defScope sNamesT) := ⟨rfl, rfl, rfl, by decide +kernel, rfl, by decide +kernel, by decide +kernel⟩
theorem ok_namest {f : Addr} {fd : FuncData} {k : Nat} (F : Fun K "names_that" "names_that" sNamesT f fd) (bs : mg "sorted" = none) (bt : mg "tuple" = none) : FnOk P w K mg base CX0 (k + 1) f fd ["live", "lives"] spNamesT := by
  refine F.ok scNamesT (fun vs H Q E h => ?_) (fun cdv A outer s H vs Q E hr h => ?_)
  · obtain ⟨b, d, ds, rfl, _⟩ := h
    rfl
  · obtain ⟨b, d, ds, rfl, hd, hH, hl, q⟩ := h
    have hu := hu_of hr
    have hu64 := hr.units
    refine ⟨_, pss_one (ps_ret (pe_callTy call_tuple_of (by rfl) bt PyProof.Rows.boot_tuple (pa_cons (pe_callB (cr_sortT hu64) (by rfl) bs (by decide +kernel) (pa_cons (pe_lock (pe_lc (own := [("name", 2)]) (g := gName 2) (tt := tTest (tOp rEq (tDGet (tVar 1) (tVar 2)) (tVar 0))) rfl scNamesT.nd (pi_keys (pv 1))
        (blkOk_by (N := ["live", "lives", "name"]) (sc := defScope sNamesT) (by decide +kernel)) (fun _ _ _ _ _ => pg_name (i := 2) scNamesT.nd rfl (Or.inl rfl))
        (fun _ _ _ _ _ => pts_one (pt_cmpR op_eq (pe_dget hu (pv 1) (pv 2) (fun _ _ => rfl)) (pv 0) (nomark _))) (fun _ _ _ _ _ => pv 2))) pa_nil)) pa_nil))), ?_⟩
    have hcl := came_len ds
    have hne : ∀ b' o, H b' = some o → b' ≠ d → True := fun _ _ _ _ => trivial
    refine ⟨d, .dK (encF' (cameD ds) fun z => V.bl (decide (z ∈ liv ds))), hd, trivial, fun od => ?_⟩
    refine ⟨.ref d, rfl, d, od, rfl, .inl ⟨_, upd_same, fun D nD => ?_⟩⟩
    have hDd : D ≠ d := fun e => by rw [e, upd_same] at nD; cases nD
    have nD0 : H D = none := by rw [upd_ne hDd] at nD; exact nD
    refine lc_it walk_keys (fun i H' => (∀ b' o, b' ≠ d → H b' = some o → H' b' = some o) ∧ H' d = some (.frz od (.dK (encF' (cameD ds) fun z => V.bl (decide (z ∈ liv ds))))) ∧ H' D = some (.lst ((((cameD ds).take i).filter fun z => decide (decide (z ∈ liv ds) = b)).map V.str)))
      ⟨fun b' o hb e => by rw [upd_ne (ne_of_none e nD0), upd_ne hb]; exact e, by rw [upd_ne (Ne.symm hDd), upd_same], upd_same⟩ (fun i H' _ h => h.2.1) ?_ ?_
    · rintro i x H' H'' hi ⟨sx, ed, eD⟩ ⟨rfl, ky, v, hk, rfl⟩
      obtain ⟨z, hz, ez⟩ : ∃ z, (cameD ds)[i]? = some z ∧ (ky, v) = ((Sum.inr z : Key), V.bl (decide (z ∈ liv ds))) := by
        unfold encF' at hk
        rw [List.getElem?_map] at hk
        cases e : (cameD ds)[i]? with
        | none => rw [e] at hk; cases hk
        | some z => rw [e] at hk; exact ⟨z, rfl, (Option.some.inj hk).symm⟩
      cases ez
      have hi2 := (List.getElem?_eq_some_iff.mp hz).1
      have hzm := List.mem_of_getElem? hz
      have g0 : DGet H'' d (.str z) (some (V.bl (decide (z ∈ liv ds)))) := by
        have : DGet H'' d (.str z) (valV (encF' (cameD ds) fun z => V.bl (decide (z ∈ liv ds))) (Sum.inr z)) := .inl ⟨_, Sum.inr z, .inr ⟨_, ed⟩, rfl, rfl⟩
        rw [encF_val, if_pos hzm] at this
        exact this
      have hfl : (((cameD ds).take i).filter fun z => decide (decide (z ∈ liv ds) = b)).length ≤ 1000 := Nat.le_trans (List.length_filter_le _ _) (by rw [List.length_take]; omega)
      refine ⟨rfl, .ref d, rfl, .str z, rfl, d, _, rfl, g0, .bl b, rfl, rfl, _, rfl, ?_⟩
      have eb : decide (V.bl (decide (z ∈ liv ds)) = V.bl b) = decide (decide (z ∈ liv ds) = b) := by
        rw [decide_eq_decide]
        exact ⟨fun e => by injection e, fun e => by rw [e]⟩
      rw [eb]
      have ft : ((cameD ds).take (i + 1)).filter (fun z => decide (decide (z ∈ liv ds) = b)) = ((cameD ds).take i).filter (fun z => decide (decide (z ∈ liv ds) = b)) ++ if decide (decide (z ∈ liv ds) = b) = true then [z] else [] := filter_snoc hz
      by_cases hb : decide (z ∈ liv ds) = b
      · rw [decide_eq_true hb]
        show if true = true then _ else _
        rw [if_pos rfl]
        refine ⟨.str z, rfl, _, eD, smallM (by rw [List.length_map]; omega), fun b' o hb' e => ?_, ?_, ?_⟩
        · rw [upd_ne (ne_of_none e nD0)]; exact sx _ _ hb' e
        · rw [upd_ne (Ne.symm hDd)]; exact ed
        · rw [upd_same, ft, decide_eq_true hb, if_pos rfl, List.map_append]; rfl
      · rw [decide_eq_false hb]
        show if false = true then _ else _
        rw [if_neg Bool.false_ne_true]
        refine ⟨sx, ed, ?_⟩
        rw [eD, ft, decide_eq_false hb, if_neg Bool.false_ne_true, List.append_nil]
    · rintro H' ⟨sx, ed, eD⟩
      have en : (encF' (cameD ds) fun z => V.bl (decide (z ∈ liv ds))).length = (cameD ds).length := encF_len _ _
      rw [en, List.take_length] at eD
      have hfl : ((cameD ds).filter fun z => decide (decide (z ∈ liv ds) = b)).length ≤ 1000 := Nat.le_trans (List.length_filter_le _ _) (by omega)
      have s1 : Same H (upd H' d (.dK (encF' (cameD ds) fun z => V.bl (decide (z ∈ liv ds))))) := fun b' o e => by
        by_cases hb : b' = d
        · subst hb
          rw [hd] at e
          rw [upd_same]; exact e
        · rw [upd_ne hb]; exact sx _ _ hb e
      refine ⟨ed, D, (cameD ds).filter fun z => decide (decide (z ∈ liv ds) = b), rfl, sql_of (by rw [upd_ne hDd]; exact eD), Nat.le_of_lt (smallM (by omega)), fun p2 n2 => ⟨p2, _, rfl, .inl ⟨sql_of upd_same, fun p3 n3 => ?_⟩⟩⟩
      have s2 := (s1.trans (same_upd (o := .lst ((sortS ((cameD ds).filter fun z => decide (decide (z ∈ liv ds) = b))).map V.str)) n2)).trans (same_upd (o := .tup ((sortS ((cameD ds).filter fun z => decide (decide (z ∈ liv ds) = b))).map V.str)) n3)
      refine q p3 _ s2 ?_
      rw [upd_same, hH.sorted_part b]
end
end Hw

set_option Elab.async false
set_option linter.all false
set_option maxRecDepth 100000
set_option maxHeartbeats 4000000
namespace Hw
open PySem L2 PyProof.Rows
abbrev sReadDs : Stmt := topS 20
theorem join_mem {y : Str} {c : Nat} : ∀ {ps : List Str}, c ∈ (Txt.join y ps).cps.toList → c ∈ y.cps.toList ∨ ∃ p ∈ ps, c ∈ p.cps.toList
  | [], h => by rw [TL.join_eq] at h; cases h
  | [p], h => by
    rw [TL.join_eq] at h
    exact .inr ⟨p, List.mem_cons_self, h⟩
  | p :: q :: r, h => by
    rw [TL.join_eq] at h
    have e : Str.join y (p :: q :: r) = p ++ y ++ Str.join y (q :: r) := rfl
    rw [e, app_cps, app_cps] at h
    rcases List.mem_append.mp h with h | h
    · rcases List.mem_append.mp h with h | h
      · exact .inr ⟨p, List.mem_cons_self, h⟩
      · exact .inl h
    · rw [← TL.join_eq] at h
      rcases join_mem h with h | ⟨z, hz, h⟩
      · exact .inl h
      · exact .inr ⟨z, List.mem_cons_of_mem _ hz, h⟩
theorem FineD.nonl {e : Deed} (f : FineD e) : 10 ∉ (deedLine e).cps.toList := fun h => by
  rcases join_mem h with h | ⟨p, hp, h⟩
  · exact absurd h (by decide +kernel)
  · exact f.no (by decide) p hp h
theorem hist_split {ds : List Deed} (h : Hist ds) (hl : ds.length ≤ 100) (hne : ds ≠ []) : Txt.split (histText ds) sNl = ds.map deedLine := by
  refine split_nl (by simpa using hne) fun p hp => ?_
  obtain ⟨e, he, rfl⟩ := List.mem_map.mp hp
  exact (FineD.of h hl he).nonl
theorem hist_ne {ds : List Deed} (h : Hist ds) (hl : ds.length ≤ 100) (hne : ds ≠ []) : (histText ds).length ≠ 0 := by
  intro e0
  have e1 : histText ds = Str.ofString "" := by
    have : (histText ds).cps = #[] := Array.eq_empty_of_size_eq_zero e0
    generalize histText ds = z at this ⊢
    cases z with
    | mk c => cases this; rfl
  have hs := hist_split h hl hne
  rw [e1, show Txt.split (Str.ofString "") sNl = [Str.ofString ""] by decide +kernel] at hs
  cases ds with
  | nil => exact hne rfl
  | cons d ds' =>
    have e2 : deedLine d = Str.ofString "" := (List.cons.inj hs).1.symm
    have := (FineD.of h hl List.mem_cons_self).split
    rw [e2, show Txt.split (Str.ofString "") sBl = [Str.ofString ""] by decide +kernel] at this
    have := congrArg List.length this
    simp at this
def spReadDs : Sp := fun vs H Q _ => ∃ ds : List Deed, vs = [.str (histText ds)] ∧ Hist ds ∧ ds.length ≤ 100 ∧ ∀ p H', Same H H' → H p = none → DeedsT H' p ds → Q (.ref p) H'
section
variable {P : Program} {w : World} {K : PySem.W.Frag} {mg : Str → Option Value} {base : Heap}
theorem scReadDs : FnScope ["text", "lines", "deeds", "lives", "number", "line", "deed"] ["text"] (defScope sReadDs) := ⟨rfl, rfl, rfl, by decide +kernel, rfl, by decide +kernel, by decide +kernel⟩
theorem ok_readds {f fR fC : Addr} {fd fdR fdC : FuncData} {k : Nat} (F : Fun K "read_deeds" "read_deeds" sReadDs f fd) (B : Blt mg) (B3 : Blt3 mg)
    (GR : FnOk P w K mg base CX0 k fR fdR ["line"] spReadD1) (gR : mg "read_deed" = some (.ref fR)) (kR : PySem.W.keepIn K (.ref fR) = true) (bR : Binds K fdR ["line"] [])
    (GC : FnOk P w K mg base CX0 k fC fdC ["value", "lives", "many"] spCanStand) (gC : mg "can_stand" = some (.ref fC)) (kC : PySem.W.keepIn K (.ref fC) = true) (bC : Binds K fdC ["value", "lives", "many"] []) :
    FnOk P w K mg base CX0 (k + 1) f fd ["text"] spReadDs := by
  refine F.ok scReadDs (fun vs H Q E h => ?_) (fun cdv A outer s H vs Q E hr h => ?_)
  · obtain ⟨ds, rfl, _⟩ := h
    rfl
  · obtain ⟨ds, rfl, hH, hl, q⟩ := h
    have hu := hu_of hr
    refine ⟨_, pss_cons (ps_if (pt_not (pt_val (pe_callB call_isi (by rfl) B3.isi PyProof.Rows.boot_isinstance (pa_cons (pv 0) (pa_cons (pe_bltn (v := .ty "str") (by rfl) B3.str (by decide +kernel) rfl) pa_nil))))) (pss_one ps_never) pss_nil)
      (pss_cons (ps_set (i := 1) scReadDs.nd rfl (.inl rfl) (pe_ifExp (pt_truth (pv 0) (by intro _; rfl)) (pe_split (pv 0) pe_str) (pe_lst pa_nil)))
      (pss_cons (ps_set (i := 2) scReadDs.nd rfl (.inl rfl) (pe_lst pa_nil))
      (pss_cons (ps_set (i := 3) scReadDs.nd rfl (.inl rfl) pe_dnewK)
      (pss_cons (ps_for PassesOwn.never rfl (pi_enumK (by rfl) B3.enum (pa_cons (pv 1) pa_nil) (pk_cons pe_int pk_nil)) (pg_tup rfl (pgs_cons (pg_name (i := 4) scReadDs.nd rfl (Or.inl rfl)) (pgs_cons (pg_name (i := 5) scReadDs.nd rfl (Or.inl rfl)) pgs_nil)))
        (pss_cons (ps_set (i := 6) scReadDs.nd rfl (.inl rfl) (pe_call GR hr (by rfl) gR kR bR .nil pass0 (pa_cons (pv 5) pa_nil)))
        (pss_cons (ps_if (pt_not (pt_val (pe_call GC hr (by rfl) gC kC bC .nil pass0 (pa_cons (pv 6) (pa_cons (pv 3) (pa_cons (pe_callB call_len_seq (by rfl) B.len PySem.boot_len (pa_cons (pv 2) pa_nil)) pa_nil)))))) (pss_one ps_never) pss_nil)
        (pss_cons (ps_expr (pe_bm PySem.F.plainAttrs_list PySem.F.slot_list_append PySem.F.type_list_append mt_append (pv 2) (pa_cons (pv 6) pa_nil)))
        (pss_one (ps_dput hu (pv 3) (pe_ix ix_tup (pv 6) pe_int (fun _ _ => rfl)) (pe_cmpR op_eq (pe_ix ix_tup (pv 6) pe_int (fun _ _ => rfl)) pe_str (nomark _)) rfl))))))
      (pss_one (ps_ret (pe_callTy call_tuple_of (by rfl) B3.tuple PyProof.Rows.boot_tuple (pa_cons (pv 2) pa_nil)))))))), ?_⟩
    refine rs_no ?_
    refine ⟨.str (histText ds), rfl, .str (histText ds), .ty "str", .type "str", .type "str", true, rfl, .ty _, .base (.str _), kit_ty (by decide +kernel), true, rfl, ?_⟩
    have htl : (histText ds).length ≤ 200000 := Nat.le_trans (join_len _ _) (hist_sum hH hl)
    refine rs_setP (fun v H1 => ∃ ll : Addr, v = .ref ll ∧ Same H H1 ∧ H ll = none ∧ H1 ll = some (.lst ((ds.map deedLine).map V.str))) (fun Q1 q1 => ?_) (fun v H1 ⟨ll, ev, s1, nll, ell⟩ => ?_)
    · by_cases h0 : ds = []
      · subst h0
        refine ⟨.str (histText []), rfl, false, ⟨by rw [sizeLine_eq]; omega, by decide +kernel⟩, ?_⟩
        show if false = true then _ else _
        rw [if_neg Bool.false_ne_true]
        exact ⟨Nat.zero_le _, fun ll nll => q1 _ _ ⟨ll, rfl, same_upd nll, nll, upd_same⟩⟩
      · have hne := hist_ne hH hl h0
        refine ⟨.str (histText ds), rfl, true, ⟨by rw [sizeLine_eq]; omega, by
          symm
          rw [bne_iff_ne]
          omega⟩, ?_⟩
        show if true = true then _ else _
        rw [if_pos rfl]
        refine ⟨.str (histText ds), rfl, ⟨_, rfl⟩, histText ds, sNl, rfl, rfl, by decide +kernel, by rw [sizeLine_eq]; omega, fun ll nll => ?_⟩
        rw [hist_split hH hl h0]
        exact q1 _ _ ⟨ll, rfl, same_upd nll, nll, upd_same⟩
    subst ev
    refine rs_set ?_
    refine ⟨Nat.zero_le _, fun dl ndl => ?_⟩
    refine rs_set ?_
    intro d nd
    have s2 := (s1.trans (same_upd (o := .lst []) ndl)).trans (same_upd (o := .dK []) nd)
    have ndl0 : H dl = none := s1.free ndl
    have nd0 : H d = none := (s1.trans (same_upd (o := .lst []) ndl)).free nd
    have ell2 := (same_upd (o := .dK []) nd) _ _ ((same_upd (o := .lst []) ndl) _ _ ell)
    have edl2 : (upd (upd H1 dl (.lst [])) d (.dK [])) dl = some (.lst []) := (same_upd nd) _ _ upd_same
    have ed2 : LivesAt (upd (upd H1 dl (.lst [])) d (.dK [])) d [] := upd_same
    have dld : dl ≠ d := ne_of_none upd_same nd
    have lldl : ll ≠ dl := fun z => by rw [z, ndl] at ell; cases ell
    have lld : ll ≠ d := ne_of_none ((same_upd ndl) _ _ ell) nd
    generalize (upd (upd H1 dl (.lst [])) d (.dK [])) = H2 at s2 ell2 edl2 ed2 ⊢
    refine rs_enumK 1 ((ds.map deedLine).map V.str) (fun a H3 => a = ll ∧ H3 = H2)
      (fun a j σ' H' => ∃ (o4 o5 o6 : Option V) (qs : List Addr), σ' = [some (.str (histText ds)), some (.ref ll), some (.ref dl), some (.ref d), o4, o5, o6] ∧ Same H H' ∧ a = ll ∧ H' ll = some (.lst ((ds.map deedLine).map V.str)) ∧ H' dl = some (.lst (qs.map V.ref)) ∧ Paired (DeedAt H') qs (ds.take j) ∧ LivesAt H' d (ds.take j))
      (fun R hR => ⟨.ref ll, rfl, ll, (ds.map deedLine).map V.str, 1, rfl, rfl, by decide, by decide, sql_of ell2, hR ll _ ⟨rfl, rfl⟩⟩)
      (fun a H3 ⟨e, e3⟩ => by subst e e3; exact ⟨_, _, _, [], rfl, s2, rfl, ell2, edl2, .nil, ed2⟩)
      (fun a j σ' H' _ ⟨_, _, _, _, _, _, e, w, _⟩ => by rw [e]; exact sql_of w) ?_ ?_
    · rintro a j x σ' H' T hj ⟨o4, o5, o6, qs, rfl, sx, rfl, el', em, hp, ed⟩ nT hx
      obtain ⟨ln, hln, rfl⟩ := map_get hx
      rw [List.getElem?_map] at hln
      obtain ⟨e, he, rfl⟩ : ∃ e, ds[j]? = some e ∧ ln = deedLine e := by
        cases hh : ds[j]? with
        | none => rw [hh] at hln; cases hln
        | some t => rw [hh] at hln; exact ⟨t, rfl, (Option.some.inj hln).symm⟩
      have hjl := (List.getElem?_eq_some_iff.mp he).1
      have hql : qs.length ≤ 100 := by rw [Paired.length hp, List.length_take]; omega
      have et : ds.take (j + 1) = ds.take j ++ [e] := take_snoc he
      have hH1 : Hist (ds.take j ++ [e]) := by rw [← et]; exact hH.take (j + 1)
      have hcl := hH.came_take j
      refine ⟨T, [.int (1 + (j : Nat)), .str (deedLine e)], rfl, sqt_of upd_same, rfl, _, [.str (deedLine e)], rfl, _, [], rfl, rfl, ?_⟩
      have sT : Same H' (upd H' T (.tup [.int (1 + (j : Nat)), .str (deedLine e)])) := same_upd nT
      generalize (upd H' T (.tup [.int (1 + (j : Nat)), .str (deedLine e)])) = H3 at sT ⊢
      refine rs_set ?_
      refine ⟨.str (deedLine e), rfl, e, rfl, FineD.of hH hl (List.mem_of_getElem? he), fun qd H4 s4 nq edd => ?_⟩
      have s5 := sT.trans s4
      refine rs_no ?_
      refine ⟨.ref qd, rfl, .ref d, rfl, .ref dl, rfl, dl, _, rfl, .inl (sql_of (s5 _ _ em)), qd, d, e, ds.take j, (qs.map V.ref).length, rfl, edd, ed.keep s5, hH1, by rw [List.length_take]; omega, by rw [List.length_map]; omega, fun H5 s6 => ⟨true, rfl, ?_⟩⟩
      have s7 := s5.trans s6
      have em5 := s7 _ _ em
      have ed5 := ed.keep s7
      have edd5 := edd.keep s6
      obtain ⟨more, ew⟩ := edd5.two (K := K)
      refine rs_bm ?_
      refine ⟨.ref dl, rfl, .inl ⟨rfl, _, sql_of em5⟩, .ref qd, rfl, dl, _, _, rfl, rfl, em5, smallM (by rw [List.length_map]; omega), ?_⟩
      have kd : ∀ (q' : Addr) (e' : Deed), DeedAt H5 q' e' → ∀ (o : HO), DeedAt (upd (upd H5 dl (.lst (qs.map V.ref ++ [.ref qd]))) d o) q' e' := fun q' e' h o => by
        have kt : ∀ {b : Addr} {vs : List V}, H5 b = some (.tup vs) → (upd (upd H5 dl (.lst (qs.map V.ref ++ [.ref qd]))) d o) b = some (.tup vs) := fun {b vs} hb => by
          have ed5' : H5 d = some (.dK _) := ed5
          rw [upd_ne (fun y => by rw [y, ed5'] at hb; cases hb), upd_ne (fun y => by rw [y, em5] at hb; cases hb)]
          exact hb
        cases e' with
        | come n ts =>
          obtain ⟨tq, h1, h2⟩ := h
          exact ⟨tq, kt h1, kt h2⟩
        | die n => exact kt h
      have ew2 : (upd H5 dl (.lst (qs.map V.ref ++ [.ref qd]))) qd = some (.tup (.str e.word :: .str e.name :: more)) := by
        rw [upd_ne (fun y => by rw [y, em5] at ew; cases ew)]; exact ew
      have ed6 : LivesAt (upd H5 dl (.lst (qs.map V.ref ++ [.ref qd]))) d (ds.take j) := by
        show (upd _ dl _) d = _
        rw [upd_ne (Ne.symm dld)]; exact ed5
      refine ⟨.ref qd, rfl, qd, _, 0, .str e.word, rfl, rfl, sqt_of ew2, atI_nat (j := 0) rfl, rfl, .ref d, rfl, .ref qd, rfl, qd, _, 1, .str e.name, rfl, rfl, sqt_of ew2, atI_nat (j := 1) rfl, d, _, rfl, DPut.k (k := Sum.inr e.name) ed6 (smallM (by rw [encF_len]; omega)), _, _, _, qs ++ [qd], rfl, fun b o eb => ?_, rfl, ?_, ?_, ?_, ?_⟩
      · rw [upd_ne (ne_of_none eb nd0), upd_ne (ne_of_none eb ndl0)]; exact s7 _ _ (sx _ _ eb)
      · rw [upd_ne lld, upd_ne lldl]; exact s7 _ _ el'
      · rw [upd_ne dld, upd_same, List.map_append]; rfl
      · rw [et]
        exact paired_snoc (kd qd e edd5 _) (paired_mono (fun q' e' h => kd q' e' (h.keep s7) _) hp)
      · show (upd _ d _) d = _
        rw [upd_same, et, word_come e, lives_step hH1]
    · rintro a σ' H' ⟨o4, o5, o6, qs, rfl, sx, rfl, el', em, hp, ed⟩
      rw [List.length_map, List.length_map, List.take_length] at hp
      exact ⟨.ref dl, rfl, dl, _, rfl, .inl ⟨sql_of em, fun p np => q p _ (sx.trans (same_upd np)) (sx.free np) ⟨qs, upd_same, paired_mono (fun q' e' h => h.keep (same_upd np)) hp⟩⟩⟩
end
end Hw

set_option Elab.async false
set_option linter.all false
set_option maxRecDepth 100000
set_option maxHeartbeats 4000000
namespace Hw
open PySem L2 PyProof.Rows
abbrev sInitH : Stmt := inClass (topS 19) 0
abbrev sLenH : Stmt := inClass (topS 19) 1
theorem SameX.tup {H H' : Hp} {x b C dx : Addr} {fs : List (Str × V)} {vs : List V} (s : SameX x H H') (hx : H x = some (.ins C dx fs)) (e : H b = some (.tup vs)) : H' b = some (.tup vs) := s _ _ (fun z => by rw [z, hx] at e; cases e) e
theorem DeedAt.put {H H' : Hp} {x q C dx : Addr} {fs : List (Str × V)} (s : SameX x H H') (hx : H x = some (.ins C dx fs)) : ∀ {d : Deed}, DeedAt H q d → DeedAt H' q d
  | .come _ _, ⟨tq, h1, h2⟩ => ⟨tq, s.tup hx h1, s.tup hx h2⟩
  | .die _, h => s.tup hx h
theorem DeedsT.put {H H' : Hp} {x p C dx : Addr} {fs : List (Str × V)} {ds : List Deed} (h : DeedsT H p ds) (s : SameX x H H') (hx : H x = some (.ins C dx fs)) : DeedsT H' p ds := by
  obtain ⟨qs, h1, h2⟩ := h
  exact ⟨qs, s.tup hx h1, paired_mono (fun q d e => e.put s hx) h2⟩
theorem LivesAt.put {H H' : Hp} {x d C dx : Addr} {fs : List (Str × V)} {ds : List Deed} (h : LivesAt H d ds) (s : SameX x H H') (hx : H x = some (.ins C dx fs)) : LivesAt H' d ds := s _ _ (fun z => by
  have h : H d = _ := h
  rw [z, hx] at h; cases h) h
theorem sameX_upd {H : Hp} {x : Addr} {o : HO} : SameX x H (upd H x o) := fun b u hb e => by rw [upd_ne hb]; exact e
/-- a History at x -/
structure HistO (C : Addr) (H : Hp) (x : Addr) (ds : List Deed) : Prop where
  ex : ∃ (dx dp lp ep : Addr) (fs : List (Str × V)), H x = some (.ins C dx fs) ∧ fs.length ≤ 4 ∧ fs.lookup ("text" : Str) = some (.str (histText ds)) ∧ fs.lookup ("deeds" : Str) = some (.ref dp) ∧ fs.lookup ("living" : Str) = some (.ref lp) ∧ fs.lookup ("dead" : Str) = some (.ref ep) ∧
    DeedsT H dp ds ∧ H lp = some (.tup ((sortS (liv ds)).map V.str)) ∧ H ep = some (.tup ((sortS (deadD ds)).map V.str))
  hist : Hist ds
  few : ds.length ≤ 100
theorem HistO.keep {C : Addr} {H H' : Hp} {x : Addr} {ds : List Deed} (w : HistO C H x ds) (s : Same H H') : HistO C H' x ds := by
  obtain ⟨⟨dx, dp, lp, ep, fs, h1, h2, h3, h4, h5, h6, h7, h8, h9⟩, a, b⟩ := w
  exact ⟨⟨dx, dp, lp, ep, fs, s _ _ h1, h2, h3, h4, h5, h6, h7.keep s, s _ _ h8, s _ _ h9⟩, a, b⟩
structure TxtH (K : PySem.W.Frag) (mg : Str → Option Value) (C : Addr) : Prop where
  cl : Cls K C
  nT : NoAttr K C "text"
  nD : NoAttr K C "deeds"
  nL : NoAttr K C "living"
  nE : NoAttr K C "dead"
  mH : mg "History" = some (.ref C)
def spInitH (C : Addr) : Sp := fun vs H Q _ => ∃ (x dx : Addr) (ds : List Deed), vs = [.ref x, .str (histText ds)] ∧ Hist ds ∧ ds.length ≤ 100 ∧ H x = some (.ins C dx []) ∧ ∀ H', HistO C H' x ds → SameX x H H' → Q .non H'
def spLenH (C : Addr) : Sp := fun vs H Q _ => ∃ (x : Addr) (ds : List Deed), vs = [.ref x] ∧ HistO C H x ds ∧ Q (.int (ds.length : Nat)) H
section
variable {P : Program} {w : World} {K : PySem.W.Frag} {mg : Str → Option Value} {base : Heap}
theorem scInitH : FnScope ["self", "text", "deeds", "lives"] ["self", "text"] (defScope sInitH) := ⟨rfl, rfl, rfl, by decide +kernel, rfl, by decide +kernel, by decide +kernel⟩
theorem ok_initH {f fR fL fN C : Addr} {fd fdR fdL fdN : FuncData} {k : Nat} (F : Fun K "__init__" "History.__init__" sInitH f fd) (T : TxtH K mg C)
    (GR : FnOk P w K mg base CX0 k fR fdR ["text"] spReadDs) (gR : mg "read_deeds" = some (.ref fR)) (kR : PySem.W.keepIn K (.ref fR) = true) (bR : Binds K fdR ["text"] [])
    (GL : FnOk P w K mg base CX0 k fL fdL ["deeds"] spLivesB) (gL : mg "lives_behind" = some (.ref fL)) (kL : PySem.W.keepIn K (.ref fL) = true) (bL : Binds K fdL ["deeds"] [])
    (GN : FnOk P w K mg base CX0 k fN fdN ["live", "lives"] spNamesT) (gN : mg "names_that" = some (.ref fN)) (kN : PySem.W.keepIn K (.ref fN) = true) (bN : Binds K fdN ["live", "lives"] []) :
    FnOk P w K mg base CX0 (k + 1) f fd ["self", "text"] (spInitH C) := by
  refine F.ok scInitH (fun vs H Q E h => ?_) (fun cdv A outer s H vs Q E hr h => ?_)
  · obtain ⟨x, dx, ds, rfl, _⟩ := h
    rfl
  · obtain ⟨x, dx, ds, rfl, hH, hl, hx, q⟩ := h
    refine ⟨_, pss_cons (ps_set (i := 2) scInitH.nd rfl (.inl rfl) (pe_call GR hr (by rfl) gR kR bR .nil pass0 (pa_cons (pv 1) pa_nil)))
      (pss_cons (ps_set (i := 3) scInitH.nd rfl (.inl rfl) (pe_call GL hr (by rfl) gL kL bL .nil pass0 (pa_cons (pv 2) pa_nil)))
      (pss_cons (ps_fld (pv 0) (pv 1) rfl) (pss_cons (ps_fld (pv 0) (pv 2) rfl)
      (pss_cons (ps_fld (pv 0) (pe_call GN hr (by rfl) gN kN bN .nil pass0 (pa_cons pe_bl (pa_cons (pv 3) pa_nil))) rfl)
      (pss_one (ps_fld (pv 0) (pe_call GN hr (by rfl) gN kN bN .nil pass0 (pa_cons pe_bl (pa_cons (pv 3) pa_nil))) rfl)))))), ?_⟩
    refine rs_set ?_
    refine ⟨.str (histText ds), rfl, ds, rfl, hH, hl, fun dp H1 s1 ndp hdp => ?_⟩
    refine rs_set ?_
    refine ⟨.ref dp, rfl, dp, ds, rfl, hdp, hH, by omega, fun d H2 s2 nd hd => ?_⟩
    have e0 := s2 _ _ (s1 _ _ hx)
    have hdp2 := hdp.keep s2
    have l1 := length_putF "text" (V.str (histText ds)) []
    have l2 := length_putF "deeds" (V.ref dp) (putF "text" (V.str (histText ds)) [])
    have l0 : ([] : List (Str × V)).length = 0 := rfl
    have hA1 := hdp2.put (sameX_upd (o := .ins C dx (putF "text" (.str (histText ds)) []))) e0
    have hA2 := hA1.put (sameX_upd (o := .ins C dx (putF "deeds" (.ref dp) (putF "text" (.str (histText ds)) [])))) upd_same
    have hB1 := hd.put (sameX_upd (o := .ins C dx (putF "text" (.str (histText ds)) []))) e0
    have hB2 := hB1.put (sameX_upd (o := .ins C dx (putF "deeds" (.ref dp) (putF "text" (.str (histText ds)) [])))) upd_same
    refine ⟨.str (histText ds), rfl, .ref x, rfl, x, C, dx, [], rfl, e0, T.cl, T.nT, by omega, .ref dp, rfl, .ref x, rfl, x, C, dx, _, rfl, upd_same, T.cl, T.nD, by omega, ?_⟩
    have ex2 : (upd (upd H2 x (.ins C dx (putF "text" (.str (histText ds)) []))) x (.ins C dx (putF "deeds" (.ref dp) (putF "text" (.str (histText ds)) [])))) x = some (.ins C dx (putF "deeds" (.ref dp) (putF "text" (.str (histText ds)) []))) := upd_same
    have sxA : SameX x H (upd (upd H2 x (.ins C dx (putF "text" (.str (histText ds)) []))) x (.ins C dx (putF "deeds" (.ref dp) (putF "text" (.str (histText ds)) [])))) := ((SameX.of (s1.trans s2)).trans sameX_upd).trans sameX_upd
    generalize (upd (upd H2 x (.ins C dx (putF "text" (.str (histText ds)) []))) x (.ins C dx (putF "deeds" (.ref dp) (putF "text" (.str (histText ds)) [])))) = H3 at hA2 hB2 ex2 sxA ⊢
    refine ⟨.ref d, rfl, true, d, ds, rfl, hB2, hH, by omega, fun lp H4 s4 elp => ?_⟩
    have ex4 := s4 _ _ ex2
    have l3 := length_putF "living" (V.ref lp) (putF "deeds" (V.ref dp) (putF "text" (V.str (histText ds)) []))
    refine ⟨.ref x, rfl, x, C, dx, _, rfl, ex4, T.cl, T.nL, by omega, ?_⟩
    have hA4 := (hA2.keep s4).put (sameX_upd (o := .ins C dx (putF "living" (.ref lp) (putF "deeds" (.ref dp) (putF "text" (.str (histText ds)) []))))) ex4
    have hB4 := (hB2.keep s4).put (sameX_upd (o := .ins C dx (putF "living" (.ref lp) (putF "deeds" (.ref dp) (putF "text" (.str (histText ds)) []))))) ex4
    have elp4 := (sameX_upd (o := .ins C dx (putF "living" (.ref lp) (putF "deeds" (.ref dp) (putF "text" (.str (histText ds)) []))))).tup ex4 elp
    have ex5 : (upd H4 x (.ins C dx (putF "living" (.ref lp) (putF "deeds" (.ref dp) (putF "text" (.str (histText ds)) []))))) x = some (.ins C dx (putF "living" (.ref lp) (putF "deeds" (.ref dp) (putF "text" (.str (histText ds)) [])))) := upd_same
    have sxB : SameX x H (upd H4 x (.ins C dx (putF "living" (.ref lp) (putF "deeds" (.ref dp) (putF "text" (.str (histText ds)) []))))) := (sxA.trans (.of s4)).trans sameX_upd
    generalize (upd H4 x (.ins C dx (putF "living" (.ref lp) (putF "deeds" (.ref dp) (putF "text" (.str (histText ds)) []))))) = H5 at hA4 hB4 elp4 ex5 sxB ⊢
    refine ⟨.ref d, rfl, false, d, ds, rfl, hB4, hH, by omega, fun ep H6 s6 eep => ?_⟩
    have ex6 := s6 _ _ ex5
    have l4 := length_putF "dead" (V.ref ep) (putF "living" (V.ref lp) (putF "deeds" (V.ref dp) (putF "text" (V.str (histText ds)) [])))
    refine ⟨.ref x, rfl, x, C, dx, _, rfl, ex6, T.cl, T.nE, by omega, q _ ⟨⟨dx, dp, lp, ep, _, upd_same, by omega, ?_, ?_, ?_, ?_, (hA4.keep s6).put sameX_upd ex6, sameX_upd.tup ex6 (s6 _ _ elp4), sameX_upd.tup ex6 eep⟩, hH, hl⟩ ((sxB.trans (.of s6)).trans sameX_upd)⟩
    · rw [lookup_putF, if_neg (by decide), lookup_putF, if_neg (by decide), lookup_putF, if_neg (by decide), lookup_putF, if_pos rfl]
    · rw [lookup_putF, if_neg (by decide), lookup_putF, if_neg (by decide), lookup_putF, if_pos rfl]
    · rw [lookup_putF, if_neg (by decide), lookup_putF, if_pos rfl]
    · rw [lookup_putF, if_pos rfl]
theorem scLenH : FnScope ["self"] ["self"] (defScope sLenH) := ⟨rfl, rfl, rfl, by decide +kernel, rfl, by decide +kernel, by decide +kernel⟩
theorem ok_lenH {f C : Addr} {fd : FuncData} {k : Nat} (F : Fun K "__len__" "History.__len__" sLenH f fd) (T : TxtH K mg C) (B : Blt mg) : FnOk P w K mg base CX0 (k + 1) f fd ["self"] (spLenH C) := by
  refine F.ok scLenH (fun vs H Q E h => ?_) (fun cdv A outer s H vs Q E hr h => ?_)
  · obtain ⟨x, ds, rfl, _⟩ := h
    rfl
  · obtain ⟨x, ds, rfl, wb, q⟩ := h
    obtain ⟨⟨dx, dp, lp, ep, fs, h1, h2, h3, h4, h5, h6, ⟨qs, h7, h7'⟩, h8, h9⟩, hH, hl⟩ := wb
    refine ⟨_, pss_one (ps_ret (pe_callB call_len_seq (by rfl) B.len PySem.boot_len (pa_cons (pe_fld (pv 0) rfl) pa_nil))), ?_⟩
    refine ⟨.ref x, rfl, x, C, dx, _, _, rfl, h1, T.cl, T.nD, h4, dp, qs.map V.ref, rfl, .inr (sqt_of h7), ?_⟩
    rw [List.length_map, Paired.length h7']
    exact q
end
end Hw

set_option Elab.async false
set_option linter.all false
set_option maxRecDepth 100000
set_option maxHeartbeats 4000000
namespace Hw
open PySem L2 PyProof.Rows
abbrev sEqH : Stmt := inClass (topS 19) 2
structure ClsQ (K : PySem.W.Frag) (mg : Str → Option Value) (C : Addr) : Prop where
  ha : PySem.W.findIn K (.ref C) "__class__" = some (some (.builtin "object.__class__"))
  hn : PySem.W.specialIn K (.builtin "object.__class__") "__get__" = some (some (.builtin "getset_descriptor.__get__"))
  htk : PySem.W.takesIn K (.builtin "object.__class__") = some true
  hm : PySem.W.mroIn K C (.type "object") = some true
  kS : PySem.W.kitOne K (.type "str") (.ref C) = some false
  kN : PySem.W.kitOne K (.type "NoneType") (.ref C) = some false
  kT : PySem.W.kitOne K (.type "tuple") (.ref C) = some false
  kI : PySem.W.kitOne K (.type "int") (.ref C) = some false
  fS : PySem.W.notFirst K C (.type "str") = true
  fN : PySem.W.notFirst K C (.type "NoneType") = true
  fT : PySem.W.notFirst K C (.type "tuple") = true
  fI : PySem.W.notFirst K C (.type "int") = true
theorem kit_same {K : PySem.W.Frag} {C : Addr} : PySem.W.kitOne K (.ref C) (.ref C) = some true := by
  unfold PySem.W.kitOne
  rw [if_pos (by simp)]
theorem deedLine_die (n : Str) : Str.empty ++ Str.ofString "die " ++ n = deedLine (.die n) := by
  unfold deedLine
  rw [TL.join_eq]
  show _ = sDie ++ sBl ++ n
  congr 1
def spLineOf : Sp := fun vs H Q _ => ∃ (q : Addr) (e : Deed), vs = [.ref q] ∧ DeedAt H q e ∧ FineD e ∧ ∀ H', Same H H' → Q (.str (deedLine e)) H'
def spEqH (K : PySem.W.Frag) (C : Addr) : Sp := fun vs H Q _ => ∃ (x : Addr) (y : V) (ds : List Deed), vs = [.ref x, y] ∧ HistO C H x ds ∧ ((∃ x2 ds2, y = .ref x2 ∧ HistO C H x2 ds2 ∧ Q (.bl (decide (histText ds = histText ds2))) H) ∨ ∃ t, TyX K H y t ∧ PySem.W.kitOne K t (.ref C) = some false ∧ Q (.bl false) H)
section
variable {P : Program} {w : World} {K : PySem.W.Frag} {mg : Str → Option Value} {base : Heap}
theorem scEqH : FnScope ["self", "other"] ["self", "other"] (defScope sEqH) := ⟨rfl, rfl, rfl, by decide +kernel, rfl, by decide +kernel, by decide +kernel⟩
theorem ok_eqH {f C : Addr} {fd : FuncData} {k : Nat} (F : Fun K "__eq__" "History.__eq__" sEqH f fd) (T : TxtH K mg C) (B3 : Blt3 mg) (Cq : ClsQ K mg C) : FnOk P w K mg base CX0 (k + 1) f fd ["self", "other"] (spEqH K C) := by
  refine F.ok scEqH (fun vs H Q E h => ?_) (fun cdv A outer s H vs Q E hr h => ?_)
  · obtain ⟨x, y, ds, rfl, _⟩ := h
    rfl
  · obtain ⟨x, y, ds, rfl, wb, hy⟩ := h
    obtain ⟨⟨dx, dp, lp, ep, fs, h1, h2, h3, h4, h5, h6, h7, h8, h9⟩, hH, hl⟩ := wb
    refine ⟨_, pss_one (ps_ret (pe_and (pe_callB call_isi (by rfl) B3.isi PyProof.Rows.boot_isinstance (pa_cons (pv 1) (pa_cons (pe_glob (v := .ref C) (by rfl) T.mH rfl) pa_nil)))
      (pe_one (pe_cmpR op_eq (pe_fld (pv 0) rfl) (pe_fld (pv 1) rfl) (nomark _))))), ?_⟩
    rcases hy with ⟨x2, ds2, rfl, ⟨⟨dx2, dp2, lp2, ep2, fs2, k1, k2, k3, k4, k5, k6, k7, k8, k9⟩, hH2, hl2⟩, q⟩ | ⟨t', ty, kt, q⟩
    · refine ⟨.ref x2, rfl, .ref x2, .ref C, .ref C, .ref C, true, rfl, .own _, .base (.ins k1 T.cl Cq.ha Cq.hn Cq.htk Cq.hm), kit_same, true, rfl, ?_⟩
      refine ⟨.ref x, rfl, x, C, dx, _, _, rfl, h1, T.cl, T.nT, h3, .ref x2, rfl, x2, C, dx2, _, _, rfl, k1, T.cl, T.nT, k3, rfl, ?_⟩
      have e : decide (V.str (histText ds) = V.str (histText ds2)) = decide (histText ds = histText ds2) := by
        rw [decide_eq_decide]
        exact ⟨fun e => by injection e, fun e => by rw [e]⟩
      rw [e]
      exact q
    · exact ⟨y, rfl, y, .ref C, t', .ref C, false, rfl, .own _, ty, kt, false, rfl, q⟩
end
end Hw

set_option Elab.async false
set_option linter.all false
set_option maxRecDepth 100000
set_option maxHeartbeats 4000000
namespace Hw
open PySem PySem.Spec L2 PyProof.Rows LamX
/-! a thing that can be called without arguments, handed from def to def -/
/-- from the moment (fs, H0, h0) on: whoever calls f, in whatever frames, where G holds, sees tl -/
structure Act (CXl : CXT) (P : Program) (w : World) (K : PySem.W.Frag) (mg : Str → Option Value) (base : Heap) (k : Nat) (f : Addr) (fs : List Addr) (H0 : Hp) (h0 : Heap) (G : Hp → Prop) (tl : XK → Hp → VK → Prop) : Prop where
  at_ : ∃ (n q : Str) (ps : Arguments) (b : Expr) (sc : Scope) (cl : List (Str × Addr)) (pm : Value) (c : Addr) (ct : Value), h0.get? f = some (PySem.W.kla_obj n q ps b sc cl pm c ct)
  free : H0 f = none
  out : f ∉ fs
  call : ∀ (A : Around) (outer : List Env) (s : Shared) (H : Hp) (Q : VK) (E : XK), Room (k + 1) A → Env0 P w K mg base A outer s H → Un fs [] H0 H h0 s.heap → G H → tl E H Q →
    codeAny (model P w) A (.call (.ref f) ⟨[], []⟩) (CR CXl outer P w H s Q E) s
/-- a lambda's context, CXl being what is said of what it lets out -/
abbrev lamCW (CXl : CXT) (X : Cx) (A : Around) (outer : List Env) (s : Shared) (H : Hp) (E : XK) (scope : Scope) (f c' : Addr) : Cx :=
  (lamCx X A outer s H E scope f c').wish fun e s' => wpAny (model X.prog X.w) (A.deeper (lamEnv X scope s.heap.objs.size f c')) (leaving (lamEnv X scope s.heap.objs.size f c') e) (fun _ s'' => CXl outer H s E e s'') (fun e' s'' => CXl outer H s E e' s'') s'
section
variable {CXl : CXT} {X : Cx} {pins : List (Addr × Obj)} {σ : L2.St} {H : Hp} {s : Shared}
/-- a lambda just made -/
theorem act_of {f c' : Addr} {pm ctv : Value} {params : Arguments} {body : Expr} {scope : Scope} {k : Nat} {t : XK → TE} (I : Inv X pins σ H s) (L : LamS X.env.scope scope)
    (hf : s.heap.get? f = some (PySem.W.kla_obj "<lambda>" (X.env.qual ++ "<lambda>") params body scope (cloFrom X.env.cells scope.names []) pm c' ctv)) (hfn : H f = none) (hfr : f ∉ frs X.stack)
    (hbind : bindArgs (PySem.W.kla_fn "<lambda>" (X.env.qual ++ "<lambda>") params body scope (cloFrom X.env.cells scope.names []) pm (.ref c') ctv) ⟨[], []⟩ = pure [])
    (hbody : ∀ (A : Around) (outer : List Env) (s : Shared) (H : Hp) (E : XK), Room k (A.deeper (lamEnv X scope s.heap.objs.size f c')) → PE (lamCW CXl X A outer s H E scope f c') body (t E)) :
    Act CXl X.prog X.w X.K X.mg X.base k f (frs X.stack) H s.heap (fun H1 => H1 c' = some (CodeO c' (X.env.qual ++ "<lambda>"))) (fun E H1 Q => t E σ H1 Q) := by
  refine ⟨⟨_, _, _, _, _, _, _, _, _, hf⟩, hfn, hfr, fun A outer s1 H1 Q E hr e0 un hc ht => ?_⟩
  have here := un.keep f _ hf hfn hfr (List.not_mem_nil)
  obtain ⟨⟨oc, vs, tk, c1, c2, c3⟩, _, _⟩ := e0.hok c' _ hc
  have lim : s1.heap.NoLimit := e0.mod.nolimit.keeps fun b o e => (e0.bs b o e).1
  refine PySem.W.kla_callFunE hr.depth here rfl L.co L.gen rfl ⟨c', oc, vs, tk, rfl, c1, c2, c3⟩ ?_
  rw [hbind]
  refine wpAny_pure (wpAny_newFunctionEnv (fun y hy => (L.own y hy).2) (fun y hy => nomatch hy) (fun h2 ns sb => ⟨lim.fresh _ sb, ?_⟩) L.kind)
  have kept : ∀ b o, s1.heap.get? b = some o → h2.get? b = some o := fun b o e => sb.extBut b o (Nat.ne_of_lt (Heap.lt_size e)) (Heap.get?_push_of_some _ e)
  have J := lam_start2 (E := E) (f := f) (c' := c') (tk := s1.toks + ([] : List (Str × Value)).length) I L e0 hr.hd un ns kept
  refine PySem.W.kla_codeExpr (wpAny_mono ((hbody A outer s1 H1 E (hr.deeper _)).run [] _ _ H1 Q (J.wish _) ht) (fun v s' hq => ?_) fun e s' hq => hq)
  obtain ⟨x, H2, J2, rv, q⟩ := hq
  have J2 := J2.unwish
  exact ⟨x, H2, J2.os, J2.bare, J2.base, J2.hok, rv, q⟩
/-- two stretches of a way, the second one seen from a frame more -/
theorem un_join {fs : List Addr} {L : Addr} {H0 H1 H2 : Hp} {h0 h1 h2 : Heap} {gs : List Addr} (a : Un fs [] H0 H1 h0 h1) (b : Un gs [] H1 H2 h1 h2) (hg : ∀ x, x ∈ gs → x ∈ fs ∨ x = L) (hf : ∀ x, x ∈ fs → x ∈ gs) (hL : h0.objs.size ≤ L) : Un fs [] H0 H2 h0 h2 where
  keep := fun c o e n hc _ => b.keep c o (a.keep c o e n hc List.not_mem_nil) (a.free c o e n List.not_mem_nil) (fun m => (hg c m).elim hc fun z => absurd (Heap.lt_size e) (by rw [z]; exact Nat.not_lt_of_le hL)) List.not_mem_nil
  slot := fun c o e n hc _ => by
    obtain ⟨sl, e1⟩ := a.slot c o e n hc List.not_mem_nil
    obtain ⟨sl', e2⟩ := b.slot c _ e1 (a.free c o e n List.not_mem_nil) (hf c hc) List.not_mem_nil
    exact ⟨sl', e2⟩
  free := fun c o e n _ => by
    obtain ⟨o', e1⟩ := a.there c o e List.not_mem_nil
    exact b.free c o' e1 (a.free c o e n List.not_mem_nil) List.not_mem_nil
  there := fun c o e _ => by
    obtain ⟨o', e1⟩ := a.there c o e List.not_mem_nil
    exact b.there c o' e1 List.not_mem_nil
  tups := fun c xs e => b.tups c xs (a.tups c xs e)
  frzs := fun c o u e => b.frzs c o u (a.frzs c o u e)
  tbls := fun c ps e => by
    obtain ⟨m1, e1⟩ := a.tbls c ps e
    obtain ⟨m2, e2⟩ := b.tbls c _ e1
    exact ⟨m1 ++ m2, by rw [e2, Array.append_assoc]⟩
/-- within a def that got it: it may be handed on -/
theorem Act.down {k : Nat} {f : Addr} {G : Hp → Prop} {tl : XK → Hp → VK → Prop} (hex : X.ex = []) (ac : Act CXl X.prog X.w X.K X.mg X.base k f X.fs X.H_0 X.s_0.heap G tl) (hs : X.stack = X.env :: X.outer) (hfm : X.env.frame = some X.env.locals) (I : Inv X pins σ H s) :
    Act CXl X.prog X.w X.K X.mg X.base k f (frs X.stack) H s.heap G tl := by
  have ub : Un X.fs [] X.H_0 H X.s_0.heap s.heap := by
    have := I.base
    rwa [hex] at this
  have hfr : frs X.stack = X.env.locals :: X.fs := by
    rw [hs]
    show List.filterMap _ _ = _
    rw [List.filterMap_cons, hfm]; rfl
  obtain ⟨n, q, ps, b, sc, cl, pm, c, ct, e⟩ := ac.at_
  refine ⟨⟨n, q, ps, b, sc, cl, pm, c, ct, ub.keep f _ e ac.free ac.out List.not_mem_nil⟩, ub.free f _ e ac.free List.not_mem_nil, fun m => ?_, fun A outer s1 H1 Q E hr e0 un hg ht => ac.call A outer s1 H1 Q E hr e0 (un_join (L := X.env.locals) ub un (fun x m => ?_) (fun x m => ?_) I.ok.above) hg ht⟩
  · rw [hfr] at m
    rcases List.mem_cons.mp m with z | z
    · have := Heap.lt_size e
      rw [z] at this
      exact absurd this (Nat.not_lt_of_le I.ok.above)
    · exact ac.out z
  · rw [hfr] at m
    exact (List.mem_cons.mp m).elim .inr .inl
  · rw [hfr]
    exact List.mem_cons_of_mem _ m
end
end Hw

set_option Elab.async false
set_option linter.all false
set_option maxRecDepth 100000
set_option maxHeartbeats 4000000
namespace Hw
open PySem PySem.Spec L2 PyProof PyProof.Rows LamX
/-! defs that get a callable and call it: what they want may speak of the frames and the heap they start in -/
abbrev SpL := List Addr → Heap → Sp
section
variable (P : Program) (w : World) (K : PySem.W.Frag) (mg : Str → Option Value) (base : Heap)
structure FnGL (CX : CXT) (k : Nat) (f : Addr) (fd : FuncData) (ps : List Str) (sp : SpL) : Prop where
  len : ∀ fs h vs H Q E, sp fs h vs H Q E → vs.length = ps.length
  run : ∀ (A : Around) (outer : List Env) (s : Shared) (H : Hp) (args : Args) (us : List Value) (vs : List V) (Q : VK) (E : XK), RoomG k A → Env0 P w K mg base A outer s H →
    BindsTo s fd args (ps.zip us) → Vals vs us → sp (frs outer) s.heap vs H Q E → codeAny (model P w) A (.call (.ref f) args) (CR CX outer P w H s Q E) s
end
section
variable {P : Program} {w : World} {K : PySem.W.Frag} {mg : Str → Option Value} {base : Heap} {CX : CXT} {k : Nat} {f : Addr} {fd : FuncData} {ps : List Str} {sp sp' : SpL}
theorem toGL {sp : Sp} (F : FnG P w K mg base CX k f fd ps sp) : FnGL P w K mg base CX k f fd ps (fun _ _ => sp) := ⟨fun _ _ => F.len, fun A o s H a us vs Q E hr he hb hv hs => F.run A o s H a us vs Q E hr he hb hv hs⟩
theorem FnGL.mono {j : Nat} (F : FnGL P w K mg base CX j f fd ps sp) (h : j ≤ k) : FnGL P w K mg base CX k f fd ps sp := ⟨F.len, fun A o s H a us vs Q E hr => F.run A o s H a us vs Q E (hr.mono h)⟩
theorem FnGL.imp (F : FnGL P w K mg base CX k f fd ps sp) (h : ∀ fs h vs H Q E, sp' fs h vs H Q E → sp fs h vs H Q E) : FnGL P w K mg base CX k f fd ps sp' :=
  ⟨fun fs g vs H Q E q => F.len fs g vs H Q E (h _ _ _ _ _ _ q), fun A o s H a us vs Q E hr he hb hv hs => F.run A o s H a us vs Q E hr he hb hv (h _ _ _ _ _ _ hs)⟩
end
/-- a def by its body -/
theorem fnGL_of {CX : CXT} {P : Program} {w : World} {K : PySem.W.Frag} {mg : Str → Option Value} {base : Heap} {k : Nat} {f : Addr} {name qual : Str} {params : Arguments} {body : List Stmt} {scope : Scope} {dV kV doc pm cdv ct oc : Value} {an od : Option Addr}
    {osl : Array (Option Value)} {N ps : List Str} {sp : SpL} (lk : K.lookup f = some ⟨oc, od, .func (PySem.W.fnOf name qual params body scope dV kV doc pm an cdv ct), osl⟩) (hcd : PySem.W.codeIn K cdv qual = true)
    (S : FnScope N ps scope) (len : ∀ fs h vs H Q E, sp fs h vs H Q E → vs.length = ps.length)
    (hbody : ∀ (A : Around) (outer : List Env) (s : Shared) (H : Hp) (vs : List V) (Q : VK) (E : XK), RoomG k (A.deeper (envOfC qual scope s.heap.objs.size f cdv)) → sp (frs outer) s.heap vs H Q E →
      ∃ t, PSs (cxOf CX P w K mg base N qual scope f cdv A outer s H E) body t ∧ t { nx := fun _ H' => Q .non H', rt := Q } (start N vs) H) :
    FnGL P w K mg base CX (k + 1) f (PySem.W.fnOf name qual params body scope dV kV doc pm an cdv ct) ps sp := by
  refine ⟨len, fun A outer s H args us vs Q E hr e0 hb r hsp => ?_⟩
  have nl := len _ _ _ _ _ _ hsp
  have kin : K.In s.heap := e0.mod.kin.keeps fun b o e => (e0.bs b o e).1
  have nolim : s.heap.NoLimit := e0.mod.nolimit.keeps fun b o e => (e0.bs b o e).1
  have kinds : ∀ y ∈ ps.zip us, scope.names.lookup y.1 = some .local ∨ (scope.names.lookup y.1 = some .cell ∧ ((cellsFrom (s.heap.objs.size + 1) scope.names []).lookup y.1).isSome = true) := by
    rintro ⟨n, v⟩ hy
    rcases S.par n (List.of_mem_zip hy).1 with q | q
    · left; exact q
    · right; exact ⟨q, PySem.W.cellsFrom_some _ _ _ (.inl q)⟩
  refine codeAny_call_function hr.r.depth (kin _ _ lk) rfl S.co S.gen rfl (PySem.W.codeRec_of kin hcd) (hb _ _ _ _ ?_)
  refine wpAny_newFunctionEnv_cells S.kind kinds fun env he s1 x => ?_
  subst he
  refine ⟨nolim.keeps x.toInCall.keep, codeAny_func ?_⟩
  obtain ⟨t, ht, hq⟩ := hbody A outer s H vs Q E (hr.deeper _) hsp
  have I0 : Inv (cxOf CX P w K mg base N qual scope f cdv A outer s H E) [] (start N vs) H s1 := inv_start S hr.r.hd e0 nl r x
  refine wpAny_mono (ht.run [] s1 (start N vs) H _ I0 hq) (fun fl s' hs => ?_) fun _ _ hs => hs
  have done : ∀ {σ' : L2.St} {H' : Hp} {v : V} {u : Value}, Inv (cxOf CX P w K mg base N qual scope f cdv A outer s H E) [] σ' H' s' → RelV v u → Q v H' → CE outer P w H s Q u s' :=
    fun {_ H' v _} J rv q => ⟨v, H', J.os, J.bare, J.base, J.hok, rv, q⟩
  match fl, hs with
  | .ret u, ⟨v, σ', H', J, rv, q⟩ => exact done J rv q
  | .next, ⟨σ', H', J, q⟩ => exact done (v := V.non) (u := Value.none) J rfl q
  | .brk, ⟨_, _, _, q⟩ => exact False.elim q
  | .cont, ⟨_, _, _, q⟩ => exact False.elim q
section
variable {P : Program} {w : World} {K : PySem.W.Frag} {mg : Str → Option Value} {base : Heap}
theorem funGL {x qual : Str} {st : Stmt} {f : Addr} {fd : FuncData} {N ps : List Str} {k : Nat} {sp : SpL} (F : Fun K x qual st f fd) (S : FnScope N ps (defScope st)) (len : ∀ fs h vs H Q E, sp fs h vs H Q E → vs.length = ps.length)
    (hbody : ∀ (cdv : Value) (A : Around) (outer : List Env) (s : Shared) (H : Hp) (vs : List V) (Q : VK) (E : XK), RoomG k (A.deeper (envOfC qual (defScope st) s.heap.objs.size f cdv)) → sp (frs outer) s.heap vs H Q E →
      ∃ t, PSs (cxOf CX0 P w K mg base N qual (defScope st) f cdv A outer s H E).nox (defBody st) t ∧ t { nx := fun _ H' => Q .non H', rt := Q } (start N vs) H) : FnGL P w K mg base CX0 (k + 1) f fd ps sp := by
  obtain ⟨oc, od, kV, doc, pm, an, cdv, ct, osl, rfl, lk, hcd⟩ := F.ex
  exact fnGL_of lk hcd S len fun A outer s H vs Q E hr hsp => by
    obtain ⟨t, h, q⟩ := hbody cdv A outer s H vs Q E hr hsp
    exact ⟨t, h.nox, q⟩
theorem funGLX {x qual : Str} {st : Stmt} {f : Addr} {fd : FuncData} {N ps : List Str} {k : Nat} {sp : SpL} (F : Fun K x qual st f fd) (S : FnScope N ps (defScope st)) (len : ∀ fs h vs H Q E, sp fs h vs H Q E → vs.length = ps.length)
    (hbody : ∀ (cdv : Value) (A : Around) (outer : List Env) (s : Shared) (H : Hp) (vs : List V) (Q : VK) (E : XK), RoomG k (A.deeper (envOfC qual (defScope st) s.heap.objs.size f cdv)) → sp (frs outer) s.heap vs H Q E →
      ∃ t, PSs (cxOf (L2.CX P w) P w K mg base N qual (defScope st) f cdv A outer s H E) (defBody st) t ∧ t { nx := fun _ H' => Q .non H', rt := Q } (start N vs) H) : FnGL P w K mg base (L2.CX P w) (k + 1) f fd ps sp := by
  obtain ⟨oc, od, kV, doc, pm, an, cdv, ct, osl, rfl, lk, hcd⟩ := F.ex
  exact fnGL_of lk hcd S len fun A outer s H vs Q E hr hsp => hbody cdv A outer s H vs Q E hr hsp
end
/-- where a def's own frame stands: whatever is called from here starts so -/
def Down (X : Cx) (fs : List Addr) (h : Heap) (H : Hp) : Prop := ∃ pins σ s, Inv X pins σ H s ∧ fs = frs X.stack ∧ h = s.heap
def tCallW (X : Cx) (sp : SpL) (dvs : List V) (E : XK) (t : TA) : TE := fun σ H Q => t σ H fun vs H1 => ∀ fs h, Down X fs h H1 → sp fs h (vs ++ dvs) H1 Q E
/-- a lambda, then the others; a call with these -/
def tLamW (CXl : CXT) (X : Cx) (T : List (Addr × Str)) (k : Nat) (q : Str) (sp : SpL) (dvs : List V) (E : XK) (ta : TA) (t : XK → TE) : TE := fun σ H Q => Tabs T H ∧ ∀ f c' H1, ExtN H H1 → Tabs T H1 → H1 c' = some (CodeO c' q) →
  ta σ H1 fun vs H2 => ∀ fs h, Act CXl X.prog X.w X.K X.mg X.base k f fs H2 h (fun HZ => HZ c' = some (CodeO c' q)) (fun E' HZ Q' => t E' σ HZ Q') → sp fs h (.ref f :: vs ++ dvs) H2 Q E
section
variable {X : Cx} {CX CXl : CXT} {k : Nat} {f : Addr} {fd : FuncData} {ps : List Str} {sp : SpL} {dvs : List V} {ds : List Value} {E : XK} {x : Str} {p pos : Pos} {e : Expr} {es : List Expr} {t : TA}
theorem Act.go {n : Nat} {a : Addr} {G : Hp → Prop} {tl : XK → Hp → VK → Prop} {fs : List Addr} {h : Heap} {H : Hp} (hex : X.ex = []) (ac : Act CXl X.prog X.w X.K X.mg X.base n a X.fs X.H_0 X.s_0.heap G tl) (hs : X.stack = X.env :: X.outer) (hfm : X.env.frame = some X.env.locals) (D : Down X fs h H) :
    Act CXl X.prog X.w X.K X.mg X.base n a fs H h G tl := by
  obtain ⟨pins, σ, s, I, rfl, rfl⟩ := D
  exact ac.down hex hs hfm I
theorem runW {pins : List (Addr × Obj)} {σ : L2.St} {H : Hp} {s : Shared} {Q : VK} {us : List Value} {vs : List V} (F : FnGL X.prog X.w X.K X.mg X.base CX k f fd ps sp) (hr : RoomG k X.A) (hb : Binds X.K fd ps ds) (hd : Vals dvs ds)
    (hx : Passes CX X E) (I : Inv X pins σ H s) (r : Vals vs us) (h : sp (frs X.stack) s.heap (vs ++ dvs) H Q E) : wpAny (model X.prog X.w) X.A (call (.ref f) us) (EP X pins σ Q) X.xe s := by
  have rr : Vals (vs ++ dvs) (us ++ ds) := r.append hd
  have ll : (us ++ ds).length = ps.length := rr.length.symm.trans (F.len _ _ _ _ _ _ h)
  refine wpAny_call (codeAny_mono (F.run X.A X.stack s H ⟨us, []⟩ (us ++ ds) (vs ++ dvs) Q E hr I.env0 (hb s us I.kIn ll) rr h) fun r' s' hq => ?_)
  match r', hq with
  | .error er, hq => exact hx pins σ H s er s' I hq
  | .ok (.ret u), hq => exact I.after hq
  | .ok .next, hq => exact False.elim hq
  | .ok .brk, hq => exact False.elim hq
  | .ok .cont, hq => exact False.elim hq
theorem pe_callW (F : FnGL X.prog X.w X.K X.mg X.base CX k f fd ps sp) (hr : RoomG k X.A) (hg : Gl X x) (hm : X.mg x = some (.ref f)) (hk : PySem.W.keepIn X.K (.ref f) = true) (hb : Binds X.K fd ps ds) (hd : Vals dvs ds)
    (hx : Passes CX X E) (ha : PA X (e :: es) t) (hdb : (x == ("__debug__" : Str)) = false := by decide) (he : starEach (e :: es) X.env = (false, eval e X.env) :: starEach es X.env := by rfl)
    (hpl : (backTo pos (starEach es X.env)).any (·.1) = false := by rfl) : PE X (.Call (.Name x p) (e :: es) [] pos) (tCallW X sp dvs E t) :=
  ⟨fun pins s σ H Q I h => wpAny_Call_Name_kw (ld_glob I hg hm (PySem.W.callWith_K (h₀ := X.base) I.ok.mod.kin hk (thn (ha.run pos pins s σ H _ I h) fun us s1 ⟨vs, H1, I1, r, q⟩ => ⟨I1.kIn, runW F hr hb hd hx I1 r (q _ _ ⟨pins, σ, s1, I1, rfl, rfl⟩)⟩) he hpl) hdb)⟩
/-- x(lambda: body, es…) -/
theorem pe_lamW {j : Nat} {T : List (Addr × Str)} {c P : Addr} {params : Arguments} {body : Expr} {scope : Scope} {lpos : Pos} {tb : XK → TE} (F : FnGL X.prog X.w X.K X.mg X.base CX k f fd ps sp) (hr : RoomG k X.A) (hg : Gl X x) (hm : X.mg x = some (.ref f)) (hk : PySem.W.keepIn X.K (.ref f) = true) (hb : Binds X.K fd ps ds) (hd : Vals dvs ds)
    (hx : Passes CX X E) (ha : PA X es t) (TB : TabB X.base X.mg c P) (hcode : X.env.code = .ref c) (hmT : (P, X.env.qual ++ "<lambda>") ∈ T) (hu : ∀ p ∈ T, p.1 = P → p.2 = X.env.qual ++ "<lambda>") (L : LamS X.env.scope scope) (hdef : defaultsOf params X.env = ([], []))
    (hbind : ∀ (q : Str) (cl : List (Str × Addr)) (pm cv ctv : Value), bindArgs (PySem.W.kla_fn "<lambda>" q params body scope cl pm cv ctv) ⟨[], []⟩ = pure [])
    (hbody : ∀ (A : Around) (outer : List Env) (s : Shared) (H : Hp) (E : XK) (f c' : Addr), Room j (A.deeper (lamEnv X scope s.heap.objs.size f c')) → PE (lamCW CXl X A outer s H E scope f c') body (tb E))
    (hdb : (x == ("__debug__" : Str)) = false := by decide) (he : starEach (.Lambda params body scope lpos :: es) X.env = (false, eval (.Lambda params body scope lpos) X.env) :: starEach es X.env := by rfl)
    (hpl : (backTo pos (starEach es X.env)).any (·.1) = false := by rfl) : PE X (.Call (.Name x p) (.Lambda params body scope lpos :: es) [] pos) (tLamW CXl X T j (X.env.qual ++ "<lambda>") sp dvs E t tb) := by
  refine ⟨fun pins s σ H Q I h => ?_⟩
  obtain ⟨hT, h⟩ := h
  refine wpAny_Call_Name_kw (ld_glob I hg hm ?_ hdb)
  refine PySem.W.callWith_K (h₀ := X.base) I.ok.mod.kin hk ?_ he hpl
  rw [he]
  show wpAny _ _ (spliced ((false, eval (.Lambda params body scope lpos) X.env) :: backTo pos (starEach es X.env))) _ _ s
  refine Calls.spliced_cons (lam_make2 I TB hcode hmT hu hT hdef (L.has I.ok) fun a c' pm' ctv H1 s' I1 eN T1 hf hfn hfr hco => ?_)
  have hfs : a ∉ X.fs := fun z => hfr (by
    rcases I1.ok.stk with e1 | ⟨e1, e2⟩
    · rw [e1]; exact z
    · rw [e1]
      show a ∈ List.filterMap _ _
      rw [List.filterMap_cons, e2]; exact List.mem_cons_of_mem _ z)
  have hfl : a ≠ X.env.locals := fun z => by
    obtain ⟨m, ⟨o', es', ep, ho', hd', _⟩, _⟩ := I1.loc
    rw [← z, hf] at ho'
    cases ho'
    cases hd'
  have Ip : Inv X ((a, PySem.W.kla_obj "<lambda>" (X.env.qual ++ "<lambda>") params body scope (cloFrom X.env.cells scope.names []) pm' c' ctv) :: pins) σ H1 s' := I1.pins_of fun q hq => by
    rcases List.mem_cons.mp hq with z | z
    · subst z
      exact ⟨hf, hfn, hfl, hfs, fun v z => by cases z⟩
    · exact I1.pin q (List.mem_append_right _ z)
  refine thn (ha.run pos _ s' σ H1 _ Ip (h a c' H1 eN T1 hco)) fun us s2 ⟨vs, H2, I2, r, q⟩ => ?_
  have pin := I2.pin (a, PySem.W.kla_obj "<lambda>" (X.env.qual ++ "<lambda>") params body scope (cloFrom X.env.cells scope.names []) pm' c' ctv) (List.mem_append_right _ List.mem_cons_self)
  have I3 : Inv X pins σ H2 s2 := I2.pins_of fun q hq => I2.pin q (List.mem_append_right _ (List.mem_cons_of_mem _ hq))
  refine ⟨I3.kIn, ?_⟩
  have ac : Act CXl X.prog X.w X.K X.mg X.base j a (frs X.stack) H2 s2.heap (fun HZ => HZ c' = some (CodeO c' (X.env.qual ++ "<lambda>"))) (fun E' HZ Q' => tb E' σ HZ Q') :=
    act_of I3 L pin.1 pin.2.1 hfr (hbind _ _ _ _ _) fun A outer s H E hr2 => hbody A outer s H E a c' hr2
  exact runW (us := .ref a :: us) (vs := .ref a :: vs) F hr hb hd hx I3 (.cons rfl r) (q _ _ ac)
end
end Hw

set_option Elab.async false
set_option linter.all false
set_option maxRecDepth 100000
set_option maxHeartbeats 4000000
namespace Hw
open PySem PySem.Spec L2 PyProof PyProof.Rows LamX
section
variable {CXl : CXT} {X : Cx} {pins : List (Addr × Obj)} {σ : L2.St} {H : Hp} {s : Shared}
/-- a(), what it may let out read at the slots of the caller -/
theorem pe_actS {k i : Nat} {a : Str} {f : Addr} {G : Hp → Prop} {tl : XK → Hp → VK → Prop} {W : WX} {p1 p2 : Pos} (hex : X.ex = []) (ac : Act CXl X.prog X.w X.K X.mg X.base k f X.fs X.H_0 X.s_0.heap G tl) (hx : ∀ σ E, (∀ cls d H', E cls d H' → W cls d σ H') → PassesAt CXl X σ E) (hr : Room (k + 1) X.A)
    (hN : X.N[i]? = some a) (hv : Vis X.env.scope a) (hd : (a == ("__debug__" : Str)) = false := by decide) (hcd : (a == ("__classdict__" : Str)) = false := by decide) :
    PE X (.Call (.Name a p1) [] [] p2) (fun σ H Q => ∃ E Q1, (∀ cls d H', E cls d H' → W cls d σ H') ∧ (∀ v H', Q1 v H' → Q v H') ∧ σ[i]? = some (some (.ref f)) ∧ G H ∧ tl E H Q1) := by
  refine ⟨fun pins s σ H Q I h => ?_⟩
  obtain ⟨Ech, Q1, hW, hQ, hs, hg, ht⟩ := h
  refine wpAny_Call_Name_kw (thn ((pe_var (pos := p1) (i := i) hN hv hd hcd).run pins s σ H (fun v H1 => v = .ref f ∧ H1 = H) I ⟨.ref f, hs, rfl, rfl⟩) fun u s1 ⟨v, H1, I1, r1, ev, eH⟩ => ?_)
  subst ev
  rw [eH] at I1
  obtain rfl : u = Value.ref f := r1
  have ub : Un X.fs [] X.H_0 H X.s_0.heap s1.heap := by
    have := I1.base
    rwa [hex] at this
  obtain ⟨n, q, ps, b, sc, cl, pm, c, ct, e⟩ := ac.at_
  refine PySem.W.callWith_F0 ⟨_, _, _, _, ub.keep f _ e ac.free ac.out List.not_mem_nil⟩ ?_
  refine wpAny_call (codeAny_mono (ac.call X.A X.stack s1 H Q1 Ech hr I1.env0 ub hg ht) fun r s' hq => ?_)
  cases r with
  | error er => exact hx σ Ech hW pins H s1 er s' I1 hq
  | ok fl =>
    cases fl with
    | ret u =>
      obtain ⟨v, H', J, r, q⟩ := I1.after hq
      exact ⟨v, H', J, r, hQ _ _ q⟩
    | next => exact False.elim hq
    | brk => exact False.elim hq
    | cont => exact False.elim hq
/-- try: a() / except x as n: suite -/
theorem ps_heard {k i j : Nat} {a x n : Str} {c : Value} {f : Addr} {G : Hp → Prop} {tl : XK → Hp → VK → Prop} {Wout : WX} {suite : List Stmt} {b₀ : Stmt} {p1 p2 p3 np pos pos' : Pos} {ts : Addr → Value → Option Addr → TS} (hex : X.ex = []) (hs : X.stack = X.env :: X.outer) (hf : X.env.frame = some X.env.locals) (hN : X.N.Nodup)
    (hi : X.N[i]? = some n) (hln : X.env.kindOf n = some .local) (hc : Names X x c) (tk : Takes X Wout) (ac : Act (L2.CX X.prog X.w) X.prog X.w X.K X.mg X.base k f X.fs X.H_0 X.s_0.heap G tl) (hr : Room (k + 1) X.A) (hNa : X.N[j]? = some a) (hva : Vis X.env.scope a)
    (hsu : ∀ (a : Addr) (oe : Obj) (cls : Value) (d : Option Addr) (pn : List (Addr × Obj)), Zc cls d oe → (∃ vs, oe.data = .fields vs) → PSs (X.suite a ((a, oe) :: pn)) (b₀ :: suite) (ts a cls d))
    (hd : (a == ("__debug__" : Str)) = false := by decide) (hcd : (a == ("__classdict__" : Str)) = false := by decide) :
    PS X (.Try [.Expr (.Call (.Name a p1) [] [] p2) p3] [.ExceptHandler (some (.Name x np)) (some n) (b₀ :: suite) pos'] [] [] pos)
      (fun D σ H => ∃ E Q1, (∀ cls d H', E cls d H' → wAs X.K c i ts Wout D cls d σ H') ∧ (∀ v H', Q1 v H' → D.nx σ H') ∧ σ[j]? = some (some (.ref f)) ∧ G H ∧ tl E H Q1) :=
  ps_try_as (tb := fun W D σ H => ∃ E Q1, (∀ cls d H', E cls d H' → W cls d σ H') ∧ (∀ v H', Q1 v H' → D.nx σ H') ∧ σ[j]? = some (some (.ref f)) ∧ G H ∧ tl E H Q1) hs hf hN hi hln hc tk
    (fun W pn xe tk' _ => pss_one (ps_expr (pe_actS (X := X.tr pn xe) (i := j) hex ac (fun _ _ h _ _ _ e s' I z => tk' e s' (XE.of_call I h z)) hr hNa hva hd hcd))) hsu
/-- try: a() / except x as n: suite, the exception's context being None -/
theorem ps_heardN {k i j : Nat} {a x n : Str} {c : Value} {f : Addr} {G : Hp → Prop} {tl : XK → Hp → VK → Prop} {Wout : WX} {suite : List Stmt} {b₀ : Stmt} {p1 p2 p3 np pos pos' : Pos} {ts : Addr → Value → Option Addr → TS} (hex : X.ex = []) (hs : X.stack = X.env :: X.outer) (hf : X.env.frame = some X.env.locals) (hN : X.N.Nodup)
    (hi : X.N[i]? = some n) (hln : X.env.kindOf n = some .local) (hc : Names X x c) (tk : L2N.Takes X Wout) (ac : Act (L2N.CX X.prog X.w) X.prog X.w X.K X.mg X.base k f X.fs X.H_0 X.s_0.heap G tl) (hr : Room (k + 1) X.A) (hNa : X.N[j]? = some a) (hva : Vis X.env.scope a)
    (hsu : ∀ (a : Addr) (oe : Obj) (cls : Value) (d : Option Addr) (pn : List (Addr × Obj)), L2N.Zn cls d oe → (∃ vs, oe.data = .fields vs) → PSs (X.suite a ((a, oe) :: pn)) (b₀ :: suite) (ts a cls d))
    (hd : (a == ("__debug__" : Str)) = false := by decide) (hcd : (a == ("__classdict__" : Str)) = false := by decide) :
    PS X (.Try [.Expr (.Call (.Name a p1) [] [] p2) p3] [.ExceptHandler (some (.Name x np)) (some n) (b₀ :: suite) pos'] [] [] pos)
      (fun D σ H => ∃ E Q1, (∀ cls d H', E cls d H' → wAs X.K c i ts Wout D cls d σ H') ∧ (∀ v H', Q1 v H' → D.nx σ H') ∧ σ[j]? = some (some (.ref f)) ∧ G H ∧ tl E H Q1) :=
  L2N.ps_try_as (tb := fun W D σ H => ∃ E Q1, (∀ cls d H', E cls d H' → W cls d σ H') ∧ (∀ v H', Q1 v H' → D.nx σ H') ∧ σ[j]? = some (some (.ref f)) ∧ G H ∧ tl E H Q1) hs hf hN hi hln hc tk
    (fun W pn xe tk' _ => pss_one (ps_expr (pe_actS (X := X.tr pn xe) (i := j) hex ac (fun _ _ h _ _ _ e s' I z => tk' e s' (L2N.XE.of_call I h z)) hr hNa hva hd hcd))) hsu
end
end Hw

set_option Elab.async false
set_option linter.all false
set_option maxRecDepth 100000
set_option maxHeartbeats 4000000
namespace Hw
open PySem PySem.Spec L2 PyProof PyProof.Rows HotX
section
variable {prog : Program} {w : World} {A : Around} {E : Value → Shared → Prop} {s : Shared}
/-- a list's iterator ends while an exception is handled -/
theorem list_end_hot {it l x1 : Addr} {i : Nat} {items : Array Value} {Q : Option Value → Shared → Prop} (hot : HotAt A x1 s.heap) (hne : x1 ≠ it) (hit : s.heap.IsListIter it l i) (hl : s.heap.IsList l items) (hx : items[i]? = none)
    (hQ : ∀ h', (∀ b o, b ≠ it → s.heap.get? b = some o → h'.get? b = some o) → Q none { s with heap := h' }) : wpAny (model prog w) A (pyNext (.ref it)) Q E s := by
  obtain ⟨o, ho, hc, hd⟩ := id hit
  obtain ⟨ol, hol, _, nl, hdl⟩ := hl
  obtain ⟨hh, o1, vs1, h1, d1, c1⟩ := hot
  unfold pyNext
  refine wpAny_bind (wpAny_attempt (wpAny_callSpecial?_slot (name := Str.ofString "__next__") hit.typeIs slot_listiter_next
    (wpAny_call_entry slot_listiter_next hit.typeIs entry_listiter_next ?_ (args_listiter_next _))))
  show wpAny _ _ (field (.ref it) 0 >>= _) _ _ s
  refine wpAny_bind (wpAny_field ho hd (x := .ref l) rfl ?_)
  show wpAny _ _ (if (Value.ref l == Value.none) = true then _ else _) _ _ s
  rw [if_neg (show ¬ ((Value.ref l == Value.none) = true) from Bool.false_ne_true)]
  show wpAny _ _ (field (.ref it) 1 >>= _) _ _ s
  refine wpAny_bind (wpAny_field ho hd (x := .int i 0) rfl ?_)
  show wpAny _ _ (seqItems? (.ref l) >>= _) _ _ s
  refine wpAny_bind (wpAny_seqItems hol hdl ?_)
  simp only [Int.toNat_natCast, hx]
  refine wpAny_bind (wpAny_rule (wpAny_bind (wpAny_setField ho hd (by simp) ?_)))
  show wpAny _ _ (newExc (.type "StopIteration") [] >>= _) _ _ _
  refine wpAny_bind ?_
  simp only [newExc, newTuple]
  refine wpAny_bind (wpAny_newObj_type ?_ (by size_fits))
  refine wpAny_bind (m := firstArgMember _ _) (wpAny_of_eq (a := Value.none) (by first | rfl | (simp only [firstArgMember]; rfl)) ?_)
  refine wpAny_newObj_type ?_ (by size_fits)
  have hu := (Heap.get?_update_other s.heap (Obj.mapFields (·.setIfInBounds 0 Value.none)) (Ne.symm hne)).trans h1
  refine raiseNew_hot ⟨hh, o1, vs1, Heap.get?_push_of_some _ (Heap.get?_push_of_some _ hu), d1, c1⟩ (Nat.ne_of_lt (Heap.lt_size (Heap.get?_push_of_some _ hu))) (Heap.get?_push_size _ rfl) rfl (by first | (simp; done) | (simp; omega) | (simp only [Array.size_append]; simp; omega)) ?_
  refine wpAny_bind (wpAny_isInstance (T := "StopIteration") (b := true) ⟨_, Heap.get?_update_self _ (Heap.get?_push_size _ rfl) rfl, rfl⟩ isSubtype_stop ?_)
  refine wpAny_pure (hQ _ fun b o hb e => ?_)
  have eu := (Heap.get?_update_other s.heap (Obj.mapFields (·.setIfInBounds 0 Value.none)) (Ne.symm hb)).trans e
  rw [Heap.get?_update_other _ _ (Nat.ne_of_gt (Heap.lt_size (Heap.get?_push_of_some _ eu)))]
  exact Heap.get?_push_of_some _ (Heap.get?_push_of_some _ eu)
theorem keys_end_hot {it d x1 : Addr} {i n ep : Nat} {od : Obj} {es : Array DictEntry} {Q : Option Value → Shared → Prop} (hot : HotAt A x1 s.heap) (hne : x1 ≠ it) (hit : s.heap.IsKeyIter it d i n ep) (hod : s.heap.get? d = some od) (hdd : od.data = .dict es ep)
    (hsz : es.size = n) (hge : n ≤ i) (hQ : ∀ h', (∀ b o, b ≠ it → s.heap.get? b = some o → h'.get? b = some o) → Q none { s with heap := h' }) : wpAny (model prog w) A (pyNext (.ref it)) Q E s := by
  obtain ⟨o, ho, hc, hd⟩ := id hit
  obtain ⟨hh, o1, vs1, h1, d1, c1⟩ := hot
  unfold pyNext
  refine wpAny_bind (wpAny_attempt (wpAny_callSpecial?_slot (name := Str.ofString "__next__") hit.typeIs F.slot_dict_keyiterator_next
    (wpAny_call_entry F.slot_dict_keyiterator_next hit.typeIs F.entry_dict_keyiterator_next ?_ (F.args_dict_keyiterator_next_1 _))))
  refine wpAny_bind (wpAny_pure ?_)
  refine wpAny_bind ?_
  refine wpAny_bind ?_
  first | refine wpAny_bind (wpAny_typeNameOfWhole_keyiter hit.typeIs (wpAny_pure ?_)) | refine wpAny_bind (wpAny_typeNameOf_keyiter hit.typeIs (wpAny_pure ?_))
  refine wpAny_bind (wpAny_fieldsOf ho hd ?_)
  have hown : Builtin.Dict_items.ownsTuple "dict_keyiterator" = false := by decide
  simp only [hown, Bool.false_eq_true, if_false]
  show wpAny _ _ (if (Value.ref d == Value.none) = true then _ else _) _ _ s
  rw [if_neg (show ¬ ((Value.ref d == Value.none) = true) from Bool.false_ne_true)]
  refine wpAny_bind (wpAny_pure ?_)
  refine wpAny_bind (wpAny_dictEntries hod hdd ?_)
  rw [if_neg (by rw [hsz]; simp)]
  refine wpAny_bind (wpAny_pure ?_)
  refine wpAny_bind (wpAny_dictEpoch hod hdd ?_)
  rw [if_neg (by simp)]
  refine wpAny_pure ?_
  have hge' : es.size ≤ i := by rw [hsz]; exact hge
  simp only [show ¬ ((i : Int) < 0) from by omega, if_false, Int.toNat_natCast, Array.getElem?_eq_none hge']
  refine wpAny_bind ?_
  first | refine wpAny_bind (wpAny_typeNameOfWhole_keyiter hit.typeIs (wpAny_pure ?_)) | refine wpAny_bind (wpAny_typeNameOf_keyiter hit.typeIs (wpAny_pure ?_))
  show wpAny _ _ (setField (.ref it) 0 .none >>= _) _ _ s
  refine wpAny_bind (wpAny_setField ho hd (by simp) ?_)
  show wpAny _ _ (newExc (.type "StopIteration") [] >>= _) _ _ _
  refine wpAny_bind ?_
  simp only [newExc, newTuple]
  refine wpAny_bind (wpAny_newObj_type ?_ (by size_fits))
  refine wpAny_bind (m := firstArgMember _ _) (wpAny_of_eq (a := Value.none) (by first | rfl | (simp only [firstArgMember]; rfl)) ?_)
  refine wpAny_newObj_type ?_ (by size_fits)
  have hu := (Heap.get?_update_other s.heap (Obj.mapFields (·.setIfInBounds 0 Value.none)) (Ne.symm hne)).trans h1
  refine raiseNew_hot ⟨hh, o1, vs1, Heap.get?_push_of_some _ (Heap.get?_push_of_some _ hu), d1, c1⟩ (Nat.ne_of_lt (Heap.lt_size (Heap.get?_push_of_some _ hu))) (Heap.get?_push_size _ rfl) rfl (by first | (simp; done) | (simp; omega) | (simp only [Array.size_append]; simp; omega)) ?_
  refine wpAny_bind (wpAny_isInstance (T := "StopIteration") (b := true) ⟨_, Heap.get?_update_self _ (Heap.get?_push_size _ rfl) rfl, rfl⟩ isSubtype_stop ?_)
  refine wpAny_pure (hQ _ fun b o hb e => ?_)
  have eu := (Heap.get?_update_other s.heap (Obj.mapFields (·.setIfInBounds 0 Value.none)) (Ne.symm hb)).trans e
  rw [Heap.get?_update_other _ _ (Nat.ne_of_gt (Heap.lt_size (Heap.get?_push_of_some _ eu)))]
  exact Heap.get?_push_of_some _ (Heap.get?_push_of_some _ eu)
end
/-- one turn of an iterator, also while an exception is handled -/
structure TurnW (P : Program) (w : World) (K : PySem.W.Frag) (tg : Expr) (J : It) (fp : List Addr) (it : Addr) (tn : Nat → Heap → Prop) : Prop where
  mem : it ∈ fp
  obj : ∀ i h, tn i h → ∀ b ∈ fp, ∃ o, h.get? b = some o ∧ ∀ v, o.data ≠ .cell v
  keep : ∀ i h h', tn i h → (∀ b ∈ fp, ∀ o, h.get? b = some o → h'.get? b = some o) → tn i h'
  item : ∀ (X : Cx), X.prog = P → X.w = w → X.K = K → ∀ (i : Nat) (pins : List (Addr × Obj)) (s : Shared) (σ : L2.St) (H : Hp) (E : Value → Shared → Prop), Inv X pins σ H s → (∀ b ∈ fp, FpOk X pins H b) → tn i s.heap → J.go i H →
    wpAny (model P w) X.A (pyNext (.ref it)) (fun r s1 => ∃ u, r = some u ∧
      wpAny (model P w) X.A (letOwnedTupleGo tg (.ref it) u) (fun _ s2 => ∃ x H', Inv X pins σ H' s2 ∧ RelV x u ∧ J.yld i H x H' ∧ tn (i + 1) s2.heap ∧ ∀ b ∈ fp, H' b = none) E s1) E s
  done : ∀ (X : Cx), X.prog = P → X.w = w → X.K = K → ∀ (x1 : Addr) (i : Nat) (pins : List (Addr × Obj)) (s : Shared) (σ : L2.St) (H : Hp) (E : Value → Shared → Prop), Inv X pins σ H s → HotAt X.A x1 s.heap → (∀ b ∈ fp, x1 ≠ b) → (∀ b ∈ fp, FpOk X pins H b) → tn i s.heap → J.stop i H →
    wpAny (model P w) X.A (pyNext (.ref it)) (fun r s1 => r = none ∧ Inv X pins σ H s1) E s
  self : ∀ (A : Around) (i : Nat) (s : Shared) (Q : Value → Shared → Prop) (E : Value → Shared → Prop), tn i s.heap → Q (.ref it) s → wpAny (model P w) A (pyIter (.ref it)) Q E s
theorem turn_listW {P : Program} {w : World} {K : PySem.W.Frag} {tg : Expr} (a it : Addr) : TurnW P w K tg (Itl K a) [it] it (fun i h => h.IsListIter it a i) where
  mem := by simp
  obj := fun i h st b hb => by
    have e : b = it := by simpa using hb
    subst e
    obtain ⟨o, e, c, d⟩ := st
    exact ⟨o, e, fun v z => by rw [d] at z; cases z⟩
  keep := fun i h h' st k => st.at fun o e => k it (by simp) o e
  item := by
    intro X hP hw hK i pins s σ H E I hf st hg
    subst hP hw hK
    obtain ⟨xs, x, hq, hx⟩ := hg
    obtain ⟨its, rv, p, hz⟩ := I.list hq
    obtain ⟨u, hu, ru⟩ := rv.get hx
    obtain ⟨f0, f1, f2, f3, f4, f5⟩ := hf it (by simp)
    refine wpAny_pyNext_list_item st p.isList (x := u) (by simpa using hu) fun h' st' sb => ?_
    have I1 : Inv X pins σ H { s with heap := h' } := I.turned (t' := s.toks) (fun b o hb e => (sb.2 b hb).trans e) f0 f1 f3 f4 f5
    obtain ⟨o, e, c, d⟩ := id st'
    exact ⟨u, rfl, go_of (s := { s with heap := h' }) e c d (by decide) ⟨x, H, I1, ru, ⟨rfl, fun ys hy => by rw [I.list_inj hy hq]; exact hx⟩, st', fun b hb => (hf b hb).1⟩⟩
  done := by
    intro X hP hw hK x1 i pins s σ H E I hot hne hf st hg
    subst hP hw hK
    obtain ⟨xs, hq, hx⟩ := hg
    obtain ⟨its, rv, p, hz⟩ := I.list hq
    obtain ⟨f0, f1, f2, f3, f4, f5⟩ := hf it (by simp)
    have hl := rv.length
    exact list_end_hot hot (hne it (by simp)) st p.isList (by simp; omega) fun h' eb => ⟨rfl, I.turned (t' := s.toks) (fun b o hb e => eb b o hb e) f0 f1 f3 f4 f5⟩
  self := fun _ _ _ _ _ st h => wpAny_pyIter_listiter st h
section
variable {P : Program} {w : World} {K : PySem.W.Frag} {tg : Expr} {d : Addr} {o : Obj} {es : Array DictEntry} {ep : Nat}
theorem turn_keysW {kvs : List (Key × V)} (it : Addr) (hod : o.data = .dict es ep) : TurnW P w K tg (Itk d o kvs) [it] it (fun i h => h.IsKeyIter it d i kvs.length ep) where
  mem := by simp
  obj := fun i h st b hb => by
    have e : b = it := by simpa using hb
    subst e
    obtain ⟨oi, e, c, dd⟩ := st
    exact ⟨oi, e, fun v z => by rw [dd] at z; cases z⟩
  keep := fun i h h' st k => st.at fun oi e => k it (by simp) oi e
  item := by
    intro X hP hw hK i pins s σ H E I hf st hg
    subst hP hw hK
    obtain ⟨hd, hi⟩ := hg
    obtain ⟨f0, f1, f2, f3, f4, f5⟩ := hf it (by simp)
    obtain ⟨hs, hgd, hx, es', ep', vs, hdt, hsz, kv, hm⟩ := I.frzK hd
    obtain ⟨rfl, rfl⟩ := dict_ep hod hdt
    obtain ⟨⟨k, v⟩, hkv⟩ : ∃ p, kvs[i]? = some p := ⟨kvs[i], List.getElem?_eq_getElem hi⟩
    obtain ⟨u, hu, ru⟩ := kv_get kv hkv
    have hl : kvs.length = vs.length := Paired.length kv
    rw [hl] at st
    refine wpAny_pyNext_dict_item st hm hu fun key h' hkey st' sb => ?_
    have I1 : Inv X pins σ H { s with heap := h' } := I.turned (t' := s.toks) (fun b ob hb e => (sb.2 b hb).trans e) f0 f1 f3 f4 f5
    obtain ⟨oi, e, c, dd⟩ := id st'
    refine ⟨key, rfl, go_of (s := { s with heap := h' }) e c dd (by decide) ⟨kV k, H, I1, relV_key (show keyIs k key = true from hkey), ⟨rfl, k, v, hkv, rfl⟩, ?_, fun b hb => (hf b hb).1⟩⟩
    show h'.IsKeyIter it d (i + 1) kvs.length _
    rw [hl]
    exact st'
  done := by
    intro X hP hw hK x1 i pins s σ H E I hot hne hf st hg
    subst hP hw hK
    obtain ⟨hd, hi⟩ := hg
    obtain ⟨f0, f1, f2, f3, f4, f5⟩ := hf it (by simp)
    obtain ⟨hs, hgd, hx, es', ep', vs, hdt, hsz, kv, hm⟩ := I.frzK hd
    obtain ⟨rfl, rfl⟩ := dict_ep hod hdt
    exact keys_end_hot hot (hne it (by simp)) st hgd hdt hsz hi fun h' eb => ⟨rfl, I.turned (t' := s.toks) (fun b ob hb e => eb b ob hb e) f0 f1 f3 f4 f5⟩
  self := fun A i s Q E st h => wpAny_pyIter_keyiter st h
end
end Hw

set_option Elab.async false
set_option linter.all false
set_option maxRecDepth 100000
set_option maxHeartbeats 4000000
namespace Hw
open PySem PySem.Spec L2 PyProof PyProof.Rows HotX
def PIEW (X : Cx) (pins : List (Addr × Obj)) (σ : L2.St) (tg : Expr) (R : It → Hp → Prop) (itv : Value) (s2 : Shared) : Prop :=
  ∃ (it : Addr) (fp : List Addr) (tn : Nat → Heap → Prop) (J : It) (H' : Hp), itv = .ref it ∧ Inv X pins σ H' s2 ∧ TurnW X.prog X.w X.K tg J fp it tn ∧ tn 0 s2.heap ∧ (∀ b ∈ fp, FpOk X pins H' b) ∧ R J H'
/-- what is walked, also while an exception is handled -/
structure PIW (X : Cx) (tg iter : Expr) (wi : TI) : Prop where
  run : ∀ (pins : List (Addr × Obj)) (s : Shared) (σ : L2.St) (H : Hp) (R : It → Hp → Prop), Inv X pins σ H s → wi σ H R →
    wpAny (model X.prog X.w) X.A (eval iter X.env) (fun v s1 => wpAny (model X.prog X.w) X.A (pyIter v) (PIEW X pins σ tg R) X.xe s1) X.xe s
/-- the keys of a locked dict -/
def iKeysW (td : TE) : TI := fun σ H R => td σ H fun x H1 => ∃ d o kvs, x = .ref d ∧ H1 d = some (.frz o (.dK kvs)) ∧ R (Itk d o kvs) H1
section
variable {X : Cx} {tg e : Expr} {td : TE}
theorem pi_listW {l : Expr} {tl : TE} (hl : PE X l tl) : PIW X tg l (iList X.K tl) := by
  refine ⟨fun pins s σ H R I h => ?_⟩
  refine thn (hl.run pins s σ H _ I h) fun v s1 ⟨x, H1, I1, r1, q1⟩ => ?_
  obtain ⟨a, e, ⟨xs, hq⟩, q⟩ := q1
  subst e
  cases r1
  obtain ⟨its, rv, p, hz⟩ := I1.list hq
  refine wpAny_pyIter_list p.isList ?_
  refine ⟨s1.heap.objs.size, [s1.heap.objs.size], _, _, H1, rfl, I1.kept (t' := s1.toks) fun b o e => Heap.get?_push_of_some _ e, turn_listW a _, ⟨_, Heap.get?_push_size _ rfl, rfl, rfl⟩, fun b hb => ?_, q⟩
  have e : b = s1.heap.objs.size := by simpa using hb
  subst e
  exact I1.fpOk (Nat.le_refl _) (I1.hok.fresh (Nat.le_refl _))
theorem pi_keysW (he : PE X e td) : PIW X tg e (iKeysW td) := by
  refine ⟨fun pins s σ H R I h => ?_⟩
  refine thn (he.run pins s σ H _ I h) fun u s1 ⟨x, H1, I1, rx, d, o, kvs, ex, hd, q⟩ => ?_
  subst ex
  obtain rfl : u = Value.ref d := rx
  obtain ⟨hs, hgd, hx, es, ep, vs, hdt, hsz, kv, hm⟩ := I1.frzK hd
  refine iter_keys hs hgd hx hdt ?_
  refine ⟨s1.heap.objs.size, [s1.heap.objs.size], _, _, H1, rfl, I1.kept (t' := s1.toks) fun b o e => Heap.get?_push_of_some _ e, turn_keysW _ hdt, ⟨_, Heap.get?_push_size _ rfl, rfl, ?_⟩, fun b hb => ?_, q⟩
  · rw [hsz] <;> rfl
  · have e : b = s1.heap.objs.size := by simpa using hb
    subst e
    exact I1.fpOk (Nat.le_refl _) (I1.hok.fresh (Nat.le_refl _))
end
section
variable {X : Cx}
theorem lc_coreW {pins : List (Addr × Obj)} {s : Shared} {σ : L2.St} {H : Hp} {Q : VK} {elt tg iter : Expr} {ifs : List Expr} {scope : Scope} {own : List (Str × Nat)} {pos pos' : Pos} {wi : TI} {g : TG} {tt : TT} {te : TE} {use : Option (Value → Sem Unit)} {Qf : Value → Shared → Prop}
    (hc : L2H.HotC X) (hN : X.N.Nodup) (I : Inv X pins σ H s) (hi : PIW X tg iter wi) (ok : BlkOk X.N X.env.scope scope own)
    (hg : ∀ (s : Shared) (H : Hp) (C : Addr) (cl : List (Str × Addr)) (fp : List Addr), PG (X.blk s H scope (compEnvC scope cl C X.env) fp) tg g) (ht : ∀ (s : Shared) (H : Hp) (C : Addr) (cl : List (Str × Addr)) (fp : List Addr), PTs (X.blk s H scope (compEnvC scope cl C X.env) fp) ifs tt)
    (he : ∀ (s : Shared) (H : Hp) (C : Addr) (cl : List (Str × Addr)) (fp : List Addr), PE (X.blk s H scope (compEnvC scope cl C X.env) fp) elt te) (hs : ∀ x, foldedSetIterable iter X.env x = pure x)
    (h : tLc wi g tt te (own.map (·.2)) σ H Q)
    (hRR : ∀ D C s' m H', Inv X pins σ H' s' → Q (.ref D) H' → s'.heap.Ns C m → FpOk X pins H' C → compPost (model X.prog X.w) X.A X.xe use Qf (.ref D) C (.ok .next) s') :
    wpAny (model X.prog X.w) X.A (comprehension (.ListComp elt [⟨tg, iter, ifs, 0⟩] scope pos) scope X.env pos' (newList []) false (eval iter X.env) use) Qf X.xe s := by
  have hfree : ∀ y ∈ scope.names, y.2 = .free → ∃ c, X.env.cells.lookup y.1 = some c := fun y hy e => by
    rcases ok.free y hy e with k | k
    · exact I.ok.has _ (.inl k)
    · exact I.ok.has _ (.inr k)
  refine wpAny_comprehension_free (use := use) rfl hs (closure_ok hfree) ok.kind (fun y hy e => by rw [ok.uniq y hy, e])
    (thn (hi.run pins s σ H _ I h) fun xv s1 hx => thn hx fun itv s2 h2 => ?_)
  obtain ⟨it, fp, tn, J, H2, e, I2, T, st2, f2, q⟩ := h2
  subst e
  refine wpAny_newObj_type (newEnv_comp ?_) (by show 0 ≤ sizeLine; decide)
  generalize hD : s2.heap.objs.size = D
  have hDn : H2 D = none := I2.hok.fresh (Nat.le_of_eq hD)
  obtain ⟨W, ⟨m0, w0⟩, turn⟩ := q D hDn
  -- the new list
  generalize hs3 : ({ s2 with heap := s2.heap.push { cls := .type "list", data := .seq ([] : List Value).toArray } } : Shared) = s3
  have I3 : Inv X pins σ (upd H2 D (.lst [])) s3 := by
    rw [← hs3]
    refine I2.laid (t' := s2.toks) (fun b o e => Heap.get?_push_of_some _ e) (Nat.le_of_eq hD) ⟨Nat.zero_le _, [], 0, .nil, ?_⟩
    rw [← hD]
    exact Heap.get?_push_size _ rfl
  have h3 : s3.heap = s2.heap.push { cls := .type "list", data := .seq ([] : List Value).toArray } := by rw [← hs3]
  have sz : ∀ b ∈ fp, b < s2.heap.objs.size := fun b hb => by
    obtain ⟨o, e, _⟩ := T.obj _ _ st2 b hb
    exact Heap.lt_size e
  have f3 : ∀ b ∈ fp, FpOk X pins (upd H2 D (.lst [])) b ∧ b < s3.heap.objs.size := fun b hb => by
    have hlt := sz b hb
    refine ⟨⟨?_, (f2 b hb).2⟩, by rw [h3, Heap.size_push]; exact Nat.lt_succ_of_lt hlt⟩
    rw [upd_ne (by rw [← hD]; exact Nat.ne_of_lt hlt)]
    exact (f2 b hb).1
  have st3 : tn 0 s3.heap := T.keep _ _ _ st2 fun b _ o e => by rw [h3]; exact Heap.get?_push_of_some _ e
  have I4 := block_start I3 ok hN f3
  have pg := hg s3 (upd H2 D (.lst [])) s3.heap.objs.size (cellsFrom (s3.heap.objs.size + 1) scope.names (cloFrom X.env.cells scope.names [])) fp
  have pt := ht s3 (upd H2 D (.lst [])) s3.heap.objs.size (cellsFrom (s3.heap.objs.size + 1) scope.names (cloFrom X.env.cells scope.names [])) fp
  have pe := he s3 (upd H2 D (.lst [])) s3.heap.objs.size (cellsFrom (s3.heap.objs.size + 1) scope.names (cloFrom X.env.cells scope.names [])) fp
  show codeAny _ _ (.compStart (.ListComp elt [⟨tg, iter, ifs, 0⟩] scope pos) 0 (.ref it) (.ref D) (compEnvC scope (cellsFrom (s3.heap.objs.size + 1) scope.names (cloFrom X.env.cells scope.names [])) s3.heap.objs.size X.env)) (compPost (model X.prog X.w) X.A X.xe use Qf (.ref D) s3.heap.objs.size) { s3 with heap := pushCells (s3.heap.push { cls := .type "dict", data := .dict #[] }) scope.names }
  have nfp : ∀ b ∈ fp, (upd H2 D (.lst [])) b = none := fun b hb => (f3 b hb).1.1
  generalize hce : compEnvC scope (cellsFrom (s3.heap.objs.size + 1) scope.names (cloFrom X.env.cells scope.names [])) s3.heap.objs.size X.env = ce at I4 pg pt pe ⊢
  obtain ⟨p, hot1, hp⟩ := hc
  have cL : ce.locals = s3.heap.objs.size := by subst hce; rfl
  generalize hH3 : upd H2 D (.lst []) = H3 at I3 I4 pg pt pe w0 nfp f3
  generalize hs4 : ({ s3 with heap := pushCells (s3.heap.push { cls := .type "dict", data := .dict #[] }) scope.names } : Shared) = s4 at I4 ⊢
  have I4 : Inv (X.blk s3 H3 scope ce fp) [p] (wipe σ (own.map (·.2))) H3 s4 := I4.pins_of fun q hq => by
    have eq : q = p := List.mem_singleton.mp hq
    subst eq
    obtain ⟨g, n, nl, nf, nc⟩ := I3.pin q (List.mem_append_left _ hp)
    refine ⟨by rw [← hs4]; exact pushCells_keeps _ _ _ _ (Heap.get?_push_of_some _ g), n, fun z => ?_, fun z => ?_, nc⟩
    · have lt := Heap.lt_size g
      rw [z] at lt
      exact absurd (show ce.locals < s3.heap.objs.size from lt) (by rw [cL]; exact Nat.lt_irrefl _)
    · rcases List.mem_cons.mp (I3.stkSub _ z) with z | z
      · exact nl z
      · exact nf z
  have hot : ∀ {σ' : L2.St} {H' : Hp} {s' : Shared}, Inv (X.blk s3 H3 scope ce fp) [p] σ' H' s' → HotAt X.A p.1 s'.heap := fun {σ' H' s'} I' => by
    obtain ⟨hh, vs, d, c⟩ := hot1
    exact ⟨hh, p.2, vs, (I'.pin p (by simp)).1, d, c⟩
  have st4 : tn 0 s4.heap := T.keep _ _ _ st3 fun b _ o e => by rw [← hs4]; exact pushCells_keeps _ _ _ _ (Heap.get?_push_of_some _ e)
  have stat : ∀ {σ' : L2.St} {H' : Hp} {s' : Shared}, Inv (X.blk s3 H3 scope ce fp) [p] σ' H' s' → (∀ b ∈ fp, H' b = none) → ∀ b ∈ fp, FpOk (X.blk s3 H3 scope ce fp) [p] H' b := fun {σ' H' s'} I' hn b hb =>
    ⟨hn b hb, (I'.ok.exf b hb).1, I'.ok.exfs b hb, .inl hb, fun x c e => (I'.ok.exf b hb).2 x c e, fun q hq => by
      have e : q = p := List.mem_singleton.mp hq
      rw [e]
      exact (f3 b hb).1.2.2.2.2.2 p (List.mem_append_left _ hp)⟩
  have loop : codeAny (model X.prog X.w) X.A (.compLoop (.ListComp elt [⟨tg, iter, ifs, 0⟩] scope pos) 0 (.ref it) (.ref D) ce) (compPost (model X.prog X.w) X.A X.xe use Qf (.ref D) s3.heap.objs.size) s4 := by
    refine compLoop_any (fun n s' => ∃ i H', Inv (X.blk s3 H3 scope ce fp) [p] (wipe σ (own.map (·.2))) H' s' ∧ tn i s'.heap ∧ (∀ b ∈ fp, H' b = none) ∧ W i n H') ?_ m0 ⟨0, H3, I4, st4, nfp, w0⟩
    rintro n s5 ⟨i, H5, I5, st5, n5, w5⟩
    rcases turn i n H5 w5 with ⟨stop, qq⟩ | ⟨go, Nx, hNx, step⟩
    · have td := T.done (X.blk s3 H3 scope ce fp) rfl rfl rfl p.1 i [p] s5 _ H5 (fun _ _ => False) I5 (hot I5) (fun b hb => (f3 b hb).1.2.2.2.2.2 p (List.mem_append_left _ hp)) (stat I5 n5) st5 stop
      refine thnF td fun r s6 ⟨hr, I6⟩ => ?_
      subst hr
      -- back in the def's context
      have I7 : Inv X pins σ H5 s6 := I3.call' (ch := fp) I6.os I6.base I6.hok I6.bare fun b hb => ⟨(f3 b hb).1.2.2.2.1, (f3 b hb).1.2.1, (f3 b hb).1.2.2.2.2.1, (f3 b hb).1.2.2.2.2.2⟩
      have nC : H5 s3.heap.objs.size = none := by
        have z : H5 ce.locals = none := I6.free
        rw [cL] at z
        exact z
      obtain ⟨m, hn, _⟩ := I6.loc
      have hn : s6.heap.Ns ce.locals m := hn
      rw [cL] at hn
      exact hRR D s3.heap.objs.size s6 m H5 I7 qq hn (I3.fpOk (Nat.le_refl _) nC)
    · have ti := T.item (X.blk s3 H3 scope ce fp) rfl rfl rfl i [p] s5 _ H5 (fun _ _ => False) I5 (stat I5 n5) st5 go
      refine thnF ti fun r s6 ⟨u, hr, h6⟩ => ?_
      subst hr
      refine thnF h6 fun _ s7 ⟨x, H7, I7, r7, y7, st7, n7⟩ => ?_
      have I7' := I7.pinned (stat I7 n7) (T.obj _ _ st7)
      refine thnF (pg.run _ s7 _ H7 x u _ I7' r7 (step x H7 y7)) fun _ s8 ⟨σ8, H8, I8, hw8, q8⟩ => ?_
      refine thnF (pt.run _ s8 σ8 H8 _ I8 q8) fun b s9 ⟨H9, I9, q9⟩ => ?_
      -- the turn's end
      have fin : ∀ {s' : Shared} {H' : Hp}, Inv (X.blk s3 H3 scope ce fp) ([p] ++ pinsAt fp s7.heap) σ8 H' s' → Nx H' → ∃ m, m < n ∧ ∃ i H', Inv (X.blk s3 H3 scope ce fp) [p] (wipe σ (own.map (·.2))) H' s' ∧ tn i s'.heap ∧ (∀ b ∈ fp, H' b = none) ∧ W i m H' := fun {s' H'} I' nx => by
        obtain ⟨m', hm, w'⟩ := hNx H' nx
        have pin' : ∀ b ∈ fp, ∀ o, s7.heap.get? b = some o → s'.heap.get? b = some o ∧ H' b = none := fun b hb o e =>
          let z := I'.pin (b, o) (List.mem_append_right _ (List.mem_append_right _ (mem_pinsAt hb e)))
          ⟨z.1, z.2.1⟩
        have hl : (wipe σ (own.map (·.2))).length = σ8.length := by rw [← hw8, wipe_length]
        refine ⟨m', hm, i + 1, H', (I'.unpinned (pins := [p])).weak hl (fun j v e => ?_), T.keep _ _ _ st7 fun b hb o e => (pin' b hb o e).1, fun b hb => ?_, w'⟩
        · rw [← hw8] at e
          exact (wipe_some e).1
        · obtain ⟨o, e, _⟩ := T.obj _ _ st7 b hb
          exact (pin' b hb o e).2
      cases b with
      | false =>
        simp only [Bool.false_eq_true, if_false] at q9 ⊢
        exact fin I9 q9
      | true =>
        simp only [if_true] at q9 ⊢
        refine thnF (pe.run _ s9 σ8 H9 _ I9 q9) fun z s10 ⟨yv, H10, I10, r10, acc, hD10, hz10, nx⟩ => ?_
        exact app_ok (X := X.blk s3 H3 scope ce fp) I10 hD10 hz10 r10 fun s11 I11 => fin I11 nx
  exact codeAny_compStart_list loop (T.self X.A 0 _ _ _ st4 loop)
theorem pe_lcW {elt tg iter : Expr} {ifs : List Expr} {scope : Scope} {own : List (Str × Nat)} {pos : Pos} {wi : TI} {g : TG} {tt : TT} {te : TE} (hc : L2H.HotC X) (hN : X.N.Nodup) (hi : PIW X tg iter wi) (ok : BlkOk X.N X.env.scope scope own)
    (hg : ∀ (s : Shared) (H : Hp) (C : Addr) (cl : List (Str × Addr)) (fp : List Addr), PG (X.blk s H scope (compEnvC scope cl C X.env) fp) tg g) (ht : ∀ (s : Shared) (H : Hp) (C : Addr) (cl : List (Str × Addr)) (fp : List Addr), PTs (X.blk s H scope (compEnvC scope cl C X.env) fp) ifs tt)
    (he : ∀ (s : Shared) (H : Hp) (C : Addr) (cl : List (Str × Addr)) (fp : List Addr), PE (X.blk s H scope (compEnvC scope cl C X.env) fp) elt te) (hs : ∀ x, foldedSetIterable iter X.env x = pure x := by intro _; rfl) :
    PE X (.ListComp elt [⟨tg, iter, ifs, 0⟩] scope pos) (tLc wi g tt te (own.map (·.2))) := by
  refine ⟨fun pins s σ H Q I h => ?_⟩
  rw [eval_ListComp]
  refine lc_coreW hc hN I hi ok hg ht he hs h fun D C s' m H' I' q hn f => ⟨m, hn, fun h'' sb => ?_⟩
  obtain ⟨f0, f1, f2, f3, f4, f5⟩ := f
  exact ⟨.ref D, H', I'.turned (t' := s'.toks) (fun b o hb e => (sb.2 b hb).trans e) f0 f1 f3 f4 f5, rfl, q⟩
end
end Hw

set_option Elab.async false
set_option linter.all false
set_option maxRecDepth 100000
set_option maxHeartbeats 4000000
namespace Hw
open PySem PySem.Spec L2 PyProof PyProof.Rows
/-- within an except suite the exception is handled -/
theorem hot_suite {X : Cx} {a : Addr} {oe : Obj} {pn : List (Addr × Obj)} {cls : Value} {d : Option Addr} (hz : L2N.Zn cls d oe) (hf : ∃ vs, oe.data = .fields vs) : L2H.HotC (X.suite a ((a, oe) :: pn)) := by
  obtain ⟨vs, e⟩ := hf
  exact ⟨(a, oe), ⟨rfl, vs, e, hz.2.2 vs e⟩, List.mem_cons_self⟩
section
open PySem.W PySem.Calls
variable {prog : Program} {w : World} {A : Around} {E : Value → Shared → Prop} {s : Shared} {K : Frag} {x D : Addr} {ox : Obj}
/-- the class of a caught error that has fields -/
theorem classOf_caught {od : Obj} {Q : Option Value → Shared → Prop} (hga : findIn K (.ref D) "__getattribute__" = some (some (.builtin "BaseException.__getattribute__"))) (hgt : findIn K (.ref D) "__getattr__" = some none) (hsub : subIn K (.ref D) (.type "BaseException") = some true)
    (hdct : hasDictIn K D = true) (ha : findIn K (.ref D) "__class__" = some (some (.builtin "object.__class__")))
    (hn : specialIn K (.builtin "object.__class__") "__get__" = some (some (.builtin "getset_descriptor.__get__"))) (htk : takesIn K (.builtin "object.__class__") = some true) (hm : mroIn K D (.type "object") = some true)
    (X : K.In s.heap) (I : InstAt s.heap x ox D (some od)) (h : Q (some (.ref D)) { s with toks := s.toks + 1 }) : wpAny (model prog w) A (getAttr? (.ref x) "__class__") Q E s := by
  have hf : findObj K D (some od) "__class__" = some (.bind (.builtin "getset_descriptor.__get__") (.builtin "object.__class__")) := findObj_data (by obtain ⟨cd, hc, _⟩ := any_some hdct; rw [hc]; rfl) ha hn htk
  obtain ⟨hp, g, d, t, os⟩ := s
  have L0 := I.type (M := model prog w)
  have L1 := looks_findIn (M := model prog w) X hga
  have L2 := looks_findIn (M := model prog w) X hgt
  have L3 := looks_find (M := model prog w) X I hf
  have sub : Looks (model prog w) hp (isInstance (.ref x) (.type "BaseException")) true := L0.andThen (looks_subIn X hsub)
  have hx0 : (false && onTheHeap (Value.builtin "BaseException.__getattribute__")) = false := rfl
  have hx2 : (Value.builtin "BaseException.__getattribute__" == Value.builtin "object.__getattribute__") = false := by decide +kernel
  have hx1 : (onTheHeap (Value.ref D) && Value.builtin "BaseException.__getattribute__" == Value.builtin "object.__getattribute__") = false := by rw [hx2]; rfl
  unfold getAttr? getAttrBy? getAttrBy
  refine wpAny_bind (wpAny_mkText (wpAny_bind (wpAny_attempt (wpAny_holding (wpAny_bind (L0.at (wpAny_bind (L1.at ?_))))))))
  show wpAny _ _ (if (onTheHeap (Value.ref D) && Value.builtin "BaseException.__getattribute__" == Value.builtin "object.__getattribute__") = true then _ else _) _ _ _
  rw [hx1, if_neg Bool.false_ne_true]
  unfold getAttrByItsOwn hookBefore
  refine wpAny_bind ?_
  rw [if_pos (show onTheHeap (Value.ref D) = true from rfl)]
  refine L2.at ?_
  refine wpAny_bind (wpAny_attempt (wpAny_holding ?_))
  unfold callGetattribute
  rw [hx0, if_neg Bool.false_ne_true]
  unfold boundAndCalled
  rw [PySem.F.excAttr_ValueError.ga.bind (.ref x)]
  refine wpAny_bind (wpAny_pure ?_)
  show wpAny _ _ (call (.builtin "BaseException.__getattribute__") [.ref x, .str "__class__" t]) _ _ _
  refine wpAny_call (codeAny_call_builtin PySem.F.excAttr_ValueError.ga.plain PySem.F.entry_bexc_ga ?_)
  refine @check_slot (model prog w) _ _ ⟨hp, g, d, t + 1, os⟩ "BaseException.__getattribute__" "BaseException" "__getattribute__" (.ref x) [.str "__class__" t] [] _ (by decide +kernel) (by decide +kernel) sub (PySem.F.args_bexc_ga (.ref x) (.str "__class__" t)) ?_
  unfold Builtin.«object.__getattribute__»
  refine wpAny_bind (wpAny_of_eq (a := ((Value.ref x : Value), [Value.str "__class__" t])) (by first | rfl | (simp only [slotArgs]; rfl)) ?_)
  refine wpAny_bind (wpAny_pure (wpAny_bind (L0.at (wpAny_bind (L3.at ?_)))))
  show wpAny _ _ (holding [Value.builtin "object.__class__"] (call (.builtin "getset_descriptor.__get__") [.builtin "object.__class__", .ref x, .ref D]) >>= ret) _ _ _
  refine wpAny_bind (wpAny_holding (wpAny_call (class_get (s := ⟨hp, g, d, t + 1, os⟩) (ox := ox) (od := some od) X I hm ?_)))
  refine wpAny_pure ?_
  show wpAny _ _ (handedOut (.ref D)) _ _ _
  rw [handedOut_of (v := .ref D) rfl]
  first
    | exact wpAny_pure (wpAny_pure h)
    | exact wpAny_pure h
    | exact wpAny_pure (wpAny_bind (wpAny_pure (wpAny_pure h)))
/-- what isinstance asks of it -/
theorem kitx_caught (C : ExcC K D) {od : Obj} : KitX K (.ref x) (.ref D) (fun h => InstAt h x ox D (some od)) where
  ty := fun _ _ _ I => I.type
  it := fun M h X _ => by
    obtain ⟨cd, hc, _⟩ := any_some C.hd
    unfold clsIn at hc
    split at hc
    · rename_i _ _ _ _ ho
      exact fun A Q E s k q => by
        unfold isType loadHead
        exact wpAny_bind (wpAny_loadPart (k _ _ (X _ _ ho)) (wpAny_pure q))
    · cases hc
  ne := fun h tp dd its n sl X htp => (handS_kitx_exc (x := x) (ox := ox) C.hg C.hk C.hs C.hd C.ha C.hn C.ht C.hm).ne h tp dd its n sl X htp
  ca := fun X I k => classOf_caught C.hg C.hk C.hs C.hd C.ha C.hn C.ht C.hm X I k
end
/-- isinstance(e, c), e the caught error with the fields at dd -/
def rIsD (K : PySem.W.Frag) (D a dd : Addr) : List V → Hp → VK → Prop := fun xs H Q => ∃ (c : V) (cv : Value) (b : Bool) (fs : List (Str × V)), xs = [.ref a, c] ∧ (∀ u, RelV c u → u = cv) ∧ H dd = some (.xd fs) ∧ PySem.W.kitOne K (.ref D) cv = some b ∧ Q (.bl b) H
theorem call_isD {X : Cx} {a D dd : Addr} {oe : Obj} {pn : List (Addr × Obj)} (C : ExcC X.K D) (hz : Zc (.ref D) (some dd) oe) (hf : ∃ vs, oe.data = .fields vs) : CallR (X.suite a ((a, oe) :: pn)) (.builtin "isinstance") (rIsD X.K D a dd) := by
  intro pins s σ H xs us Q I r h
  obtain ⟨c, cv, b, fs, rfl, hcv, hdd, e, q⟩ := h
  cases r with
  | cons rx rr =>
    cases rr with
    | cons rt rr =>
      cases rr
      cases rx
      have ec := hcv _ rt
      subst ec
      have hget := (I.pin (a, oe) (List.mem_append_left _ List.mem_cons_self)).1
      obtain ⟨vs, hv⟩ := hf
      have hx : ObjOk X.prog X.w H s.heap dd (.xd fs) := I.hok dd _ hdd
      obtain ⟨mA, hns, _⟩ := hx
      obtain ⟨od, ho, _⟩ := lookIn_ns hns
      have J : PySem.W.InstAt s.heap a oe D (some od) := ⟨hget, hz.1, by unfold PySem.W.notCls; rw [hv] <;> rfl, by rw [hz.2]; exact ho⟩
      exact PySem.W.kia_one (kitx_caught C) I.kIn J e (fun z => nomatch z) fun tk => ⟨.bl b, H, I.kept (t' := tk) fun _ _ z => z, rfl, q⟩
/-- isinstance(caught, c): the name of the except clause, a class of the module -/
theorem pe_isD {X : Cx} {a D C dd : Addr} {oe : Obj} {pn : List (Addr × Obj)} {i : Nat} {n c : Str} {p1 p2 p3 p4 : Pos} (hC : ExcC X.K D) (hz : Zc (.ref D) (some dd) oe) (hf : ∃ vs, oe.data = .fields vs) (hgi : Gl X "isinstance") (hmi : X.mg "isinstance" = none)
    (hN : X.N[i]? = some n) (hv : Vis X.env.scope n) (hgc : Gl X c) (hmc : X.mg c = some (.ref C)) (hd : (n == ("__debug__" : Str)) = false := by decide) (hcd : (n == ("__classdict__" : Str)) = false := by decide) (hdc : (c == ("__debug__" : Str)) = false := by decide) :
    PE (X.suite a ((a, oe) :: pn)) (.Call (.Name "isinstance" p1) [.Name n p2, .Name c p3] [] p4) (fun σ H Q => σ[i]? = some (some (.ref a)) ∧ (∃ fs, H dd = some (.xd fs)) ∧ ∃ b, PySem.W.kitOne X.K (.ref D) (.ref C) = some b ∧ Q (.bl b) H) := by
  have h := pe_callB (X := X.suite a ((a, oe) :: pn)) (p := p1) (pos := p4) (call_isD (pn := pn) hC hz hf) hgi hmi (by rfl) (pa_cons (pe_var (X := X.suite a ((a, oe) :: pn)) (pos := p2) (i := i) hN hv hd hcd) (pa_cons (pe_glob (X := X.suite a ((a, oe) :: pn)) (pos := p3) (v := .ref C) hgc hmc rfl hdc) pa_nil))
  refine ⟨fun pins s σ H Q I hh => h.run pins s σ H Q I ?_⟩
  obtain ⟨h1, ⟨fs, h2⟩, b, h3, h4⟩ := hh
  exact ⟨.ref a, h1, .ref C, .ref C, b, fs, rfl, fun u r => r, h2, h3, h4⟩
end Hw

set_option Elab.async false
set_option linter.all false
set_option maxRecDepth 100000
set_option maxHeartbeats 4000000
namespace Hw
open PySem PySem.Spec L2 PyProof PyProof.Rows
def isYes : V → Bool
  | .bl b => b
  | _ => false
/-- the keys with True -/
def yesOf (kvs : List (Key × V)) : List V := (kvs.filter fun kv => isYes kv.2).map fun kv => kV kv.1
theorem valV_at' : ∀ {kvs : List (Key × V)} {k : Key} {v : V}, (kvs.map (·.1)).Nodup → (k, v) ∈ kvs → valV kvs k = some v
  | [], _, _, _, h => by cases h
  | (k0, v0) :: r, k, v, nd, h => by
    have nd' := List.nodup_cons.mp (show (k0 :: r.map (·.1)).Nodup from nd)
    unfold valV
    rw [List.find?_cons]
    by_cases e : k0 = k
    · subst e
      rcases List.mem_cons.mp h with z | z
      · cases z; simp
      · exact absurd (List.mem_map.mpr ⟨_, z, rfl⟩) nd'.1
    · rw [show decide ((k0, v0).1 = k) = false from decide_eq_false e]
      rcases List.mem_cons.mp h with z | z
      · cases z; exact absurd rfl e
      · exact valV_at' nd'.2 z
theorem upd_back {H : Hp} {d D : Addr} {a l u : HO} (hd : H d = some u) (hD : H D = none) : upd (upd (upd H d a) D l) d u = upd H D l := by
  have ne : D ≠ d := fun z => by rw [z, hd] at hD; cases hD
  funext b
  by_cases h1 : b = d
  · subst h1; rw [upd_same, upd_ne (Ne.symm ne)]; exact hd.symm
  · rw [upd_ne h1]
    by_cases h2 : b = D
    · subst h2; rw [upd_same, upd_same]
    · rw [upd_ne h2, upd_ne h1, upd_ne h2]
/-- the words of the dict whose value is True, also within an except suite -/
theorem pe_yesWords {X : Cx} {i j : Nat} {w ws : Str} {scope : Scope} {p1 p2 p3 p4 p5 p6 pos : Pos} (hc : L2H.HotC X) (hN : X.N.Nodup) (hu : X.A.units + 1 < cLine) (hws : X.N[i]? = some ws) (hw : X.N[j]? = some w) (hij : i ≠ j)
    (ok : BlkOk X.N X.env.scope scope [(w, j)]) (hvX : Vis X.env.scope ws) (hv : ∀ (C : Addr) (cl : List (Str × Addr)), Vis (compEnvC scope cl C X.env).scope ws) (hl : ∀ (C : Addr) (cl : List (Str × Addr)), (compEnvC scope cl C X.env).scope.names.lookup w = some .local)
    (hd : (ws == ("__debug__" : Str)) = false := by decide) (hcd : (ws == ("__classdict__" : Str)) = false := by decide) (hd' : (w == ("__debug__" : Str)) = false := by decide) (hcd' : (w == ("__classdict__" : Str)) = false := by decide) :
    PE X (.ListComp (.Name w p1) [⟨.Name w p2, .Name ws p3, [.Subscript (.Name ws p4) (.Name w p5) p6], 0⟩] scope pos) (fun σ H Q => ∃ d kvs, σ[i]? = some (some (.ref d)) ∧ H d = some (.dK kvs) ∧ (∀ kv ∈ kvs, ∃ b, kv.2 = V.bl b) ∧ (kvs.map (·.1)).Nodup ∧ kvs.length ≤ 100 ∧
      ∀ D, H D = none → Q (.ref D) (upd H D (.lst (yesOf kvs)))) := by
  refine ⟨fun pins s σ H Q I h => ?_⟩
  obtain ⟨d, kvs, hs, hH, hb, nd, few, q⟩ := h
  have hj : j < σ.length := by
    rw [I.len]
    obtain ⟨z, _⟩ := List.getElem?_eq_some_iff.mp hw
    exact z
  refine (pe_lock (pe_lcW (own := [(w, j)]) (g := gName j) (tt := tB (tDGet (tVar i) (tVar j))) (te := tVar j) hc hN (pi_keysW (pe_var hws hvX hd hcd)) ok
    (fun _ _ C cl _ => pg_name hN hw (.inl (hl C cl)) (.inr (hl C cl)))
    (fun _ _ C cl _ => pts_one (pt_val (pe_dget hu (pe_var hws (hv C cl) hd hcd) (pe_var hw (.inl (hl C cl)) hd' hcd') (fun _ _ => rfl))))
    (fun _ _ C cl _ => pe_var hw (.inl (hl C cl)) hd' hcd'))).run pins s σ H Q I ?_
  refine ⟨d, .dK kvs, hH, trivial, fun od => ?_⟩
  refine ⟨.ref d, hs, d, od, kvs, rfl, upd_same, fun D nD => ?_⟩
  have neD : D ≠ d := fun z => by rw [z, upd_same] at nD; cases nD
  have nD1 : H D = none := by rw [upd_ne neD] at nD; exact nD
  refine lc_it (n := kvs.length) walk_keys (fun n H' => H' = upd (upd H d (.frz od (.dK kvs))) D (.lst (yesOf (kvs.take n)))) rfl (fun n H' _ e => ?_) (fun n x H3 H2 hn e y => ?_) (fun H' e => ?_)
  · rw [e, upd_ne (Ne.symm neD)]; exact upd_same
  · obtain ⟨rfl, k, v, hk, rfl⟩ := y
    obtain ⟨b, hbv⟩ := hb _ (List.mem_of_getElem? hk)
    have hbv : v = V.bl b := hbv
    subst hbv
    have e1 : wipe σ (List.map (fun x => x.2) [(w, j)]) = σ.set j none := rfl
    rw [e1]
    show (wipe ((σ.set j none).set j (some (kV k))) [j] = _) ∧ _
    rw [List.set_set]
    have s1 : (σ.set j (some (kV k)))[i]? = some (some (V.ref d)) := by rw [List.getElem?_set_ne (Ne.symm hij)]; exact hs
    have s2 : (σ.set j (some (kV k)))[j]? = some (some (kV k)) := List.getElem?_set_self hj
    refine ⟨by show (σ.set j (some (kV k))).set j none = _; rw [List.set_set], ?_⟩
    have hdd : H2 d = some (.frz od (.dK kvs)) := by rw [e, upd_ne (Ne.symm neD)]; exact upd_same
    have hvl := valV_at' nd (List.mem_of_getElem? hk)
    have tk : kvs.take (n + 1) = kvs.take n ++ [(k, V.bl b)] := by rw [List.take_add_one, hk]; rfl
    refine ⟨.ref d, s1, kV k, s2, d, V.bl b, rfl, .inl ⟨kvs, k, .inr ⟨od, hdd⟩, rfl, hvl.symm⟩, b, rfl, ?_⟩
    cases b with
    | false =>
      rw [if_neg Bool.false_ne_true]
      show H2 = _
      rw [e, tk]
      unfold yesOf
      rw [List.filter_append]
      simp [isYes]
    | true =>
      rw [if_pos rfl]
      refine ⟨kV k, s2, yesOf (kvs.take n), by rw [e]; exact upd_same, ?_, ?_⟩
      · have h1 : (yesOf (kvs.take n)).length ≤ kvs.length := by
          unfold yesOf
          rw [List.length_map]
          exact Nat.le_trans (List.length_filter_le _ _) (by rw [List.length_take]; exact Nat.min_le_right _ _)
        have h2 : (100 : Nat) < sizeLine := by decide
        omega
      · rw [e, upd_upd, tk]
        unfold yesOf
        rw [List.filter_append, List.map_append]
        rfl
  · rw [e, List.take_length]
    refine ⟨by rw [upd_ne (Ne.symm neD)]; exact upd_same, ?_⟩
    rw [upd_back hH nD1]
    exact q D nD1
end Hw

set_option Elab.async false
set_option linter.all false
set_option maxRecDepth 100000
set_option maxHeartbeats 4000000
namespace Hw
open PySem PySem.Spec L2 PyProof PyProof.Rows
/-- the first word whose mark is True -/
def pick3 (w1 w2 w3 other : Str) (b1 b2 b3 : Bool) : Str := if b1 then w1 else if b2 then w2 else if b3 then w3 else other
/-- words = {w1: isinstance(caught, c1), w2: isinstance(caught, c2)}; words[w3] = ..; return (([word for word in words if words[word]] + [other])[0], caught.value) -/
theorem pss_words3 {X : Cx} {a Dc dd C1 C2 C3 : Addr} {oe : Obj} {pn : List (Addr × Obj)} {w1 w2 w3 other c1 c2 c3 : Str} {scope : Scope} {j1 j2 j3 j4 j5 kk : Nat} {q1 q2 q3 q4 q5 q6 q7 q8 q9 q10 r1 r2 r3 r4 r5 r6 r7 r8 r9 r10 r11 r12 s1 s2 s3 s4 s5 s6 s7 s8 s9 s10 s11 s12 s13 s14 s15 : Pos}
    (hC : ExcC X.K Dc) (hz : L2N.Zn (.ref Dc) (some dd) oe) (hf : ∃ vs, oe.data = .fields vs) (T : XfC X.K Dc) (hno : PySem.W.findIn X.K (.ref Dc) "value" = some none) (hu : X.A.units + 1 < cLine) (hNN : X.N = [("call" : Str), ("caught" : Str), ("words" : Str), ("word" : Str)])
    (hgi : Gl X "isinstance") (hmi : X.mg "isinstance" = none) (g1 : Gl X c1) (m1 : X.mg c1 = some (.ref C1)) (g2 : Gl X c2) (m2 : X.mg c2 = some (.ref C2)) (g3 : Gl X c3) (m3 : X.mg c3 = some (.ref C3)) (d1 : (c1 == ("__debug__" : Str)) = false) (d2 : (c2 == ("__debug__" : Str)) = false) (d3 : (c3 == ("__debug__" : Str)) = false)
    (vc : Vis X.env.scope "caught") (vw : X.env.scope.names.lookup ("words" : Str) = some .cell) (fw : X.fn "words" = true) (n12 : w1 ≠ w2) (n13 : w1 ≠ w3) (n23 : w2 ≠ w3)
    (ok : BlkOk ["call", "caught", "words", "word"] X.env.scope scope [("word", 3)]) (hv : ∀ (C : Addr) (cl : List (Str × Addr)), Vis (compEnvC scope cl C X.env).scope "words") (hl : ∀ (C : Addr) (cl : List (Str × Addr)), (compEnvC scope cl C X.env).scope.names.lookup ("word" : Str) = some .local) :
    PSs (X.suite a ((a, oe) :: pn))
      [.Assign [.Name "words" q1] (.Dict [some (.Constant (.str w1) j1 q2), some (.Constant (.str w2) j2 q3)] [.Call (.Name "isinstance" r1) [.Name "caught" r2, .Name c1 r3] [] r4, .Call (.Name "isinstance" r5) [.Name "caught" r6, .Name c2 r7] [] r8] q4) q5,
       .Assign [.Subscript (.Name "words" q6) (.Constant (.str w3) j3 q7) q8] (.Call (.Name "isinstance" r9) [.Name "caught" r10, .Name c3 r11] [] r12) q9,
       .Return (some (.Tuple [.Subscript (.BinOp (.ListComp (.Name "word" s1) [⟨.Name "word" s2, .Name "words" s3, [.Subscript (.Name "words" s4) (.Name "word" s5) s6], 0⟩] scope s7) .Add (.List [.Constant (.str other) j4 s8] s9) s10) (.Constant (.int 0) j5 s11) s12, .Attribute (.Name "caught" s13) "value" s14] kk s15)) q10]
      (fun D σ H => σ.length = 4 ∧ σ[1]? = some (some (.ref a)) ∧ ∃ (fs : List (Str × V)) (v : V) (b1 b2 b3 : Bool), H dd = some (.xd fs) ∧ fs.lookup ("value" : Str) = some v ∧ PySem.W.kitOne X.K (.ref Dc) (.ref C1) = some b1 ∧ PySem.W.kitOne X.K (.ref Dc) (.ref C2) = some b2 ∧ PySem.W.kitOne X.K (.ref Dc) (.ref C3) = some b3 ∧
        ∀ H' tp, (∀ b o, H b = some o → H' b = some o) → H' tp = some (.tup [.str (pick3 w1 w2 w3 other b1 b2 b3), v]) → D.rt (.ref tp) H') := by
  have hN : (X.suite a ((a, oe) :: pn)).N.Nodup := by show X.N.Nodup; rw [hNN]; decide
  have i1 : (X.suite a ((a, oe) :: pn)).N[1]? = some ("caught" : Str) := by show X.N[1]? = _; rw [hNN]; rfl
  have i2 : (X.suite a ((a, oe) :: pn)).N[2]? = some ("words" : Str) := by show X.N[2]? = _; rw [hNN]; rfl
  have i3 : (X.suite a ((a, oe) :: pn)).N[3]? = some ("word" : Str) := by show X.N[3]? = _; rw [hNN]; rfl
  have okX : BlkOk (X.suite a ((a, oe) :: pn)).N X.env.scope scope [("word", 3)] := by show BlkOk X.N _ _ _; rw [hNN]; exact ok
  have pw : PE (X.suite a ((a, oe) :: pn)) (.Name "words" q6) (tVar 2) := pe_var i2 (.inr (.inl vw)) (by decide) (by decide)
  have is1 := pe_isD (X := X) (a := a) (pn := pn) (i := 1) (p1 := r1) (p2 := r2) (p3 := r3) (p4 := r4) hC hz.zc hf hgi hmi i1 vc g1 m1 (by decide) (by decide) d1
  have is2 := pe_isD (X := X) (a := a) (pn := pn) (i := 1) (p1 := r5) (p2 := r6) (p3 := r7) (p4 := r8) hC hz.zc hf hgi hmi i1 vc g2 m2 (by decide) (by decide) d2
  have is3 := pe_isD (X := X) (a := a) (pn := pn) (i := 1) (p1 := r9) (p2 := r10) (p3 := r11) (p4 := r12) hC hz.zc hf hgi hmi i1 vc g3 m3 (by decide) (by decide) d3
  have pd := pe_disp (X := X.suite a ((a, oe) :: pn)) (pos := q4) (pps_cons (pe_str (j := j1) (pos := q2) (x := w1)) is1 (pps_cons (pe_str (j := j2) (pos := q3) (x := w2)) is2 pps_nil)) rfl rfl (by simp) (by show 2 ≤ 15; omega)
  have ps2 := ps_dput (X := X.suite a ((a, oe) :: pn)) (pos' := q8) (pos := q9) hu pw (pe_str (j := j3) (pos := q7) (x := w3)) is3 rfl
  have ps1 := ps_set (X := X.suite a ((a, oe) :: pn)) (i := 2) (pos' := q1) (pos := q5) hN i2 (.inr vw) pd rfl (.inl fw)
  have ylc := pe_yesWords (X := X.suite a ((a, oe) :: pn)) (i := 2) (j := 3) (p1 := s1) (p2 := s2) (p3 := s3) (p4 := s4) (p5 := s5) (p6 := s6) (pos := s7) (hot_suite hz hf) hN hu i2 i3 (by decide) okX (.inr (.inl vw)) hv hl (by decide) (by decide) (by decide) (by decide)
  have pl := pe_ix (X := X.suite a ((a, oe) :: pn)) (pos := s12) ix_list (pe_op (pos := s10) op_cat ylc (pe_lst (pos := s9) (pa_cons (pe_str (j := j4) (pos := s8) (x := other)) pa_nil))) (pe_int (j := j5) (pos := s11) (i := 0)) (fun _ _ => rfl)
  have pf := pe_xf (X := X) (a := a) (pn := pn) (pos := s14) T hno hz.zc hf (pe_var (pos := s13) i1 vc (by decide) (by decide)) rfl
  have ps3 := ps_ret (pos := q10) (pe_tup (x1 := kk) (pos := s15) (pa_cons pl (pa_cons pf pa_nil)))
  refine ⟨fun pins s σ H D I h => (pss_cons ps1 (pss_cons ps2 (pss_one ps3))).run pins s σ H D I ?_⟩
  obtain ⟨hlen, hs, fs, v, b1, b2, b3, hdd, hval, k1, k2, k3, q⟩ := h
  intro p np
  have ndd : dd ≠ p := fun z => by rw [z, np] at hdd; cases hdd
  have hdd1 : upd H p (.dK []) dd = some (.xd fs) := by rw [upd_ne ndd]; exact hdd
  refine ⟨hs, ⟨fs, hdd1⟩, b1, k1, hs, ⟨fs, hdd1⟩, b2, k2, ?_⟩
  refine ⟨upd_same, [(.inr w1, .bl b1), (.inr w2, .bl b2)], rfl, by show 2 ≤ 15; omega, ?_⟩
  have n21 : w2 ≠ w1 := Ne.symm n12
  have em : mergeK [] [((.inr w1 : Key), V.bl b1), (.inr w2, .bl b2)] = [(.inr w1, .bl b1), (.inr w2, .bl b2)] := by
    unfold mergeK
    simp [putK, n12]
  have ep : putK [((.inr w1 : Key), V.bl b1), (.inr w2, .bl b2)] (.inr w3) (.bl b3) = [(.inr w1, .bl b1), (.inr w2, .bl b2), (.inr w3, .bl b3)] := by
    simp [putK, n13, n23]
  rw [em, upd_upd]
  have z1 : (σ.set 2 (some (V.ref p)))[1]? = some (some (V.ref a)) := by rw [List.getElem?_set_ne (by decide)]; exact hs
  have z2 : (σ.set 2 (some (V.ref p)))[2]? = some (some (V.ref p)) := List.getElem?_set_self (by omega)
  have hdd2 : upd H p (.dK [(.inr w1, .bl b1), (.inr w2, .bl b2)]) dd = some (.xd fs) := by rw [upd_ne ndd]; exact hdd
  refine ⟨z1, ⟨fs, hdd2⟩, b3, k3, .ref p, z2, p, _, rfl, .inl ⟨_, .inr w3, upd_same, rfl, by show 2 < sizeLine; decide, rfl⟩, ?_⟩
  rw [ep, upd_upd]
  generalize hH1 : upd H p (.dK [(.inr w1, .bl b1), (.inr w2, .bl b2), (.inr w3, .bl b3)]) = H1
  have hp : H1 p = some (.dK [(.inr w1, .bl b1), (.inr w2, .bl b2), (.inr w3, .bl b3)]) := by rw [← hH1]; exact upd_same
  have same1 : ∀ b o, H b = some o → H1 b = some o := fun b o e => by rw [← hH1, upd_ne (ne_of_none e np)]; exact e
  refine ⟨p, _, z2, hp, fun kv hkv => ?_, by simp [n12, n13, n23], by show 3 ≤ 100; omega, fun L nL => ?_⟩
  · rcases List.mem_cons.mp hkv with z | hkv
    · exact ⟨b1, by rw [z]⟩
    · rcases List.mem_cons.mp hkv with z | hkv
      · exact ⟨b2, by rw [z]⟩
      · exact ⟨b3, by rw [List.mem_singleton.mp hkv]⟩
  generalize hys : yesOf [((.inr w1 : Key), V.bl b1), (.inr w2, .bl b2), (.inr w3, .bl b3)] = ys
  have few : ys.length ≤ 3 := by
    rw [← hys]; unfold yesOf; rw [List.length_map]; exact List.length_filter_le _ _
  have same2 : ∀ b o, H1 b = some o → upd H1 L (.lst ys) b = some o := fun b o e => by rw [upd_ne (ne_of_none e nL)]; exact e
  refine ⟨by show 1 ≤ sizeLine; decide, fun M nM => ?_⟩
  have same3 : ∀ b o, upd H1 L (.lst ys) b = some o → upd (upd H1 L (.lst ys)) M (.lst [.str other]) b = some o := fun b o e => by rw [upd_ne (ne_of_none e nM)]; exact e
  refine ⟨L, M, ys, [.str other], rfl, rfl, same3 _ _ upd_same, upd_same, by have : (100 : Nat) < sizeLine := by decide
                                                                             show ys.length + 1 ≤ _; omega, fun C nC => ?_⟩
  have same4 : ∀ b o, upd (upd H1 L (.lst ys)) M (.lst [.str other]) b = some o → upd (upd (upd H1 L (.lst ys)) M (.lst [.str other])) C (.lst (ys ++ [.str other])) b = some o := fun b o e => by rw [upd_ne (ne_of_none e nC)]; exact e
  have head : atI (ys ++ [V.str other]) 0 = some (V.str (pick3 w1 w2 w3 other b1 b2 b3)) := by
    rw [← hys]
    cases b1 <;> cases b2 <;> cases b3 <;> rfl
  refine ⟨C, _, 0, _, rfl, rfl, .inl (.inl upd_same), head, ?_⟩
  refine ⟨.ref a, z1, rfl, rfl, dd, fs, v, rfl, same4 _ _ (same3 _ _ (same2 _ _ (same1 _ _ hdd))), hval, ?_⟩
  refine ⟨by show 2 ≤ sizeLine; decide, fun tp ntp => ?_⟩
  exact q _ tp (fun b o e => by
    have e4 := same4 _ _ (same3 _ _ (same2 _ _ (same1 _ _ e)))
    rw [upd_ne (ne_of_none e4 ntp)]; exact e4) upd_same
end Hw

set_option Elab.async false
set_option linter.all false
set_option maxRecDepth 100000
set_option maxHeartbeats 4000000
namespace Hw
open PySem PySem.Spec L2 PyProof PyProof.Rows
theorem takes0N {X : Cx} : L2N.Takes X (fun _ _ _ _ => False) := fun _ _ x => by
  obtain ⟨_, _, _, _, _, _, _, _, _, _, _, _, _, _, _, _, z⟩ := x
  exact z.elim
/-- what is known of the error of the package that is caught: its class, its fields -/
structure Caught (K : PySem.W.Frag) (CS : Addr) (cls : Value) (d : Option Addr) (Dc dd : Addr) : Prop where
  cls : cls = .ref Dc
  dict : d = some dd
  heal : PySem.W.exmOne K (.ref Dc) (.ref CS) = some true
  isC : ExcC K Dc
  fld : XfC K Dc
  val : PySem.W.findIn K (.ref Dc) "value" = some none
/-- _law_heard(call): (word, value) of the error of the package, ("", None) without one -/
def spHeard3 (P : Program) (w : World) (K : PySem.W.Frag) (mg : Str → Option Value) (base : Heap) (k : Nat) (CS C1 C2 C3 : Addr) (w1 w2 w3 other : Str) : SpL := fun fs h vs H Q _ =>
  ∃ (a : Addr) (G : Hp → Prop) (tl : XK → Hp → VK → Prop), vs = [.ref a] ∧ Act (L2N.CX P w) P w K mg base k a fs H h G tl ∧ G H ∧
    tl (fun cls d H1 => ∃ (Dc dd : Addr) (fds : List (Str × V)) (v : V) (b1 b2 b3 : Bool), Caught K CS cls d Dc dd ∧ H1 dd = some (.xd fds) ∧ fds.lookup ("value" : Str) = some v ∧ PySem.W.kitOne K (.ref Dc) (.ref C1) = some b1 ∧ PySem.W.kitOne K (.ref Dc) (.ref C2) = some b2 ∧ PySem.W.kitOne K (.ref Dc) (.ref C3) = some b3 ∧
        ∀ H' tp, (∀ b o, H1 b = some o → H' b = some o) → H' tp = some (.tup [.str (pick3 w1 w2 w3 other b1 b2 b3), v]) → Q (.ref tp) H') H
      (fun _ H1 => ∀ H' tp, (∀ b o, H1 b = some o → H' b = some o) → H' tp = some (.tup [.str "", .non]) → Q (.ref tp) H')
theorem heard3_ok {P : Program} {w : World} {K : PySem.W.Frag} {mg : Str → Option Value} {base : Heap} {st : Stmt} {f : Addr} {fd : FuncData} {k : Nat} {qual er : Str} {CS C1 C2 C3 : Addr} {w1 w2 w3 other c1 c2 c3 : Str} {scope : Scope} {j1 j2 j3 j4 j5 j6 j7 kk kk2 : Nat}
    {q1 q2 q3 q4 q5 q6 q7 q8 q9 q10 r1 r2 r3 r4 r5 r6 r7 r8 r9 r10 r11 r12 s1 s2 s3 s4 s5 s6 s7 s8 s9 s10 s11 s12 s13 s14 s15 u1 u2 u3 u4 u5 u6 u7 u8 u9 u10 : Pos}
    (F : L2.Fun K "_law_heard" qual st f fd) (S : FnScope ["call", "caught", "words", "word"] ["call"] (defScope st))
    (hb : defBody st = [.Try [.Expr (.Call (.Name "call" u1) [] [] u2) u3] [.ExceptHandler (some (.Name er u4)) (some "caught")
      [.Assign [.Name "words" q1] (.Dict [some (.Constant (.str w1) j1 q2), some (.Constant (.str w2) j2 q3)] [.Call (.Name "isinstance" r1) [.Name "caught" r2, .Name c1 r3] [] r4, .Call (.Name "isinstance" r5) [.Name "caught" r6, .Name c2 r7] [] r8] q4) q5,
       .Assign [.Subscript (.Name "words" q6) (.Constant (.str w3) j3 q7) q8] (.Call (.Name "isinstance" r9) [.Name "caught" r10, .Name c3 r11] [] r12) q9,
       .Return (some (.Tuple [.Subscript (.BinOp (.ListComp (.Name "word" s1) [⟨.Name "word" s2, .Name "words" s3, [.Subscript (.Name "words" s4) (.Name "word" s5) s6], 0⟩] scope s7) .Add (.List [.Constant (.str other) j4 s8] s9) s10) (.Constant (.int 0) j5 s11) s12, .Attribute (.Name "caught" s13) "value" s14] kk s15)) q10] u5] [] [] u6,
      .Return (some (.Tuple [.Constant (.str "") j6 u7, .Constant .none j7 u8] kk2 u9)) u10])
    (va : (defScope st).names.lookup ("call" : Str) = some .local) (vc : (defScope st).names.lookup ("caught" : Str) = some .local) (vw : (defScope st).names.lookup ("words" : Str) = some .cell)
    (ge : (defScope st).names.lookup er = some .globalImplicit) (gi : (defScope st).names.lookup ("isinstance" : Str) = some .globalImplicit) (g1 : (defScope st).names.lookup c1 = some .globalImplicit) (g2 : (defScope st).names.lookup c2 = some .globalImplicit) (g3 : (defScope st).names.lookup c3 = some .globalImplicit)
    (me : mg er = some (.ref CS)) (mi : mg "isinstance" = none) (m1 : mg c1 = some (.ref C1)) (m2 : mg c2 = some (.ref C2)) (m3 : mg c3 = some (.ref C3))
    (de : (er == ("__debug__" : Str)) = false) (d1 : (c1 == ("__debug__" : Str)) = false) (d2 : (c2 == ("__debug__" : Str)) = false) (d3 : (c3 == ("__debug__" : Str)) = false) (n12 : w1 ≠ w2) (n13 : w1 ≠ w3) (n23 : w2 ≠ w3)
    (ok : BlkOk ["call", "caught", "words", "word"] (defScope st) scope [("word", 3)])
    (hv : ∀ (C : Addr) (cl : List (Str × Addr)) (L : Nat) (cd : Value), Vis (compEnvC scope cl C (envOfC qual (defScope st) L f cd)).scope "words")
    (hl : ∀ (C : Addr) (cl : List (Str × Addr)) (L : Nat) (cd : Value), (compEnvC scope cl C (envOfC qual (defScope st) L f cd)).scope.names.lookup ("word" : Str) = some .local) :
    FnGL P w K mg base CX0 (k + 2) f fd ["call"] (spHeard3 P w K mg base k CS C1 C2 C3 w1 w2 w3 other) := by
  refine funGL F S (fun fs h vs H Q E hh => ?_) (fun cdv A outer s H vs Q E hr hh => ?_)
  · obtain ⟨_, _, _, rfl, _⟩ := hh
    rfl
  · obtain ⟨a, G, tl, rfl, ac, hg, ht⟩ := hh
    rw [hb]
    refine ⟨_, pss_cons (ps_heardN (X := (cxOf CX0 P w K mg base ["call", "caught", "words", "word"] qual (defScope st) f cdv A outer s H E).nox) (i := 1) (j := 0) (c := .ref CS) (Wout := fun _ _ _ _ => False)
        (ts := fun x cls d D σ H1 => ∃ (Dc dd : Addr), Caught K CS cls d Dc dd ∧ (σ.length = 4 ∧ σ[1]? = some (some (.ref x)) ∧ ∃ (fs : List (Str × V)) (v : V) (b1 b2 b3 : Bool), H1 dd = some (.xd fs) ∧ fs.lookup ("value" : Str) = some v ∧ PySem.W.kitOne K (.ref Dc) (.ref C1) = some b1 ∧ PySem.W.kitOne K (.ref Dc) (.ref C2) = some b2 ∧ PySem.W.kitOne K (.ref Dc) (.ref C3) = some b3 ∧
          ∀ H' tp, (∀ b o, H1 b = some o → H' b = some o) → H' tp = some (.tup [.str (pick3 w1 w2 w3 other b1 b2 b3), v]) → D.rt (.ref tp) H'))
        rfl rfl rfl S.nd rfl vc ⟨ge, de, .inl me⟩ takes0N ac hr.r rfl (.inl va) (fun x oe cls d pn hz hf => ?_) (by decide) (by decide))
      (pss_one (ps_ret (pe_tup (pa_cons pe_str (pa_cons pe_non pa_nil))))), ?_⟩
    · refine ⟨fun pins s' σ H1 D I h => ?_⟩
      obtain ⟨Dc, dd, ct, h⟩ := h
      have e1 := ct.cls
      have e2 := ct.dict
      subst e1 e2
      exact (pss_words3 (X := (cxOf CX0 P w K mg base ["call", "caught", "words", "word"] qual (defScope st) f cdv A outer s H E).nox) (pn := pn) ct.isC hz hf ct.fld ct.val (hu_of hr.r) rfl gi mi g1 m1 g2 m2 g3 m3 d1 d2 d3 (.inl vc) vw rfl n12 n13 n23 ok
        (fun C cl => hv C cl _ _) (fun C cl => hl C cl _ _)).run pins s' σ H1 D I h
    · refine ⟨_, _, fun cls d H1 h => ?_, fun v H1 h => ?_, rfl, hg, ht⟩
      · obtain ⟨Dc, dd, fds, v, b1, b2, b3, ct, e1, e2, k1, k2, k3, q⟩ := h
        have ec := ct.cls
        refine ⟨true, by rw [ec]; exact ct.heal, fun _ x _ => ⟨Dc, dd, ct, rfl, rfl, fds, v, b1, b2, b3, e1, e2, k1, k2, k3, q⟩, fun z => Bool.noConfusion z⟩
      · refine ⟨by show 2 ≤ sizeLine; decide, fun tp np => ?_⟩
        exact h _ tp (fun b o e => by rw [upd_ne (ne_of_none e np)]; exact e) upd_same
end Hw

set_option Elab.async false
set_option linter.all false
set_option maxRecDepth 100000
set_option maxHeartbeats 4000000
namespace Hw
open PySem PySem.Spec L2 PyProof PyProof.Rows
section
variable {X : Cx} {o e : Expr} {es : List Expr} {to te : TE} {ta : TA} {f : Str} {p p' p1 p2 pos : Pos}
/-- an error with its own __init__ is made; its context is None -/
theorem mk_endN {pins : List (Addr × Obj)} {σ : L2.St} {H1 H2 : Hp} {Q : XK} {hp hp2 h2 : Heap} {g1 g2 : Array GenState} {d1 d2 : Drawn} {t1 t2 : Nat} {os1 os2 : OsState} {a C d : Addr} {fs : List (Str × V)} (T : Raises X (.ref C)) (I1 : Inv X pins σ H1 ⟨hp, g1, d1, t1, os1⟩)
    (ha : hp.objs.size ≤ a) (k : ∀ b o, hp.get? b = some o → hp2.get? b = some o) (un : Un (frs X.stack) [] (upd H1 a (exo a C none)) H2 hp2 h2) (hok : HOk X.prog X.w H2 h2) (ho : os2 = os1) (hb : AllBare g2)
    (ea : H2 a = some (exo a C (some d))) (ed : H2 d = some (exd d fs)) (hd1 : H1 d = none) (q : Q (.ref C) (some d) (upd (del H2 a) d (.xd fs))) : L2N.MkP X pins σ Q (.ref a) ⟨h2, g2, d2, t2, os2⟩ := by
  obtain ⟨t0, G, J, kG, ge, hoe, na⟩ := mk_end0 (d2 := d2) (t2 := t2) I1 ha k un hok ho hb ea ed hd1
  exact ⟨a, _, _, ⟨G, g2, d2, t2, os2⟩, _, .ref C, some d, rfl, J, kG, ge, hoe, ⟨rfl, rfl, fun vs e => by cases e; rfl⟩, rfl, rfl, na, rfl, hb, T, q⟩
theorem pmk_oexN {CX : CXT} {x : Str} {C fI : Addr} {k : Nat} {fd : FuncData} {ps : List Str} {sp : Sp} {ds : List Value} {dvs : List V} (T : OexC X.K C) (iC : PySem.W.findIn X.K (.ref C) "__init__" = some (some (.ref fI))) (tI : PySem.W.typeIn X.K (.ref fI) = some (.type "function"))
    (F1 : FnOk X.prog X.w X.K X.mg X.base CX k fI fd ps sp) (hr : Room (k + 1) X.A) (hb : Binds X.K fd ps ds) (hd : Vals dvs ds) (hx : Passes CX X (fun _ _ _ => False)) (hg : Gl X x) (hm : X.mg x = some (.ref C)) (ha : PA X (e :: es) ta)
    (hdb : (x == ("__debug__" : Str)) = false := by decide) (he : starEach (e :: es) X.env = (false, eval e X.env) :: starEach es X.env := by rfl) (hpl : (backTo pos (starEach es X.env)).any (·.1) = false := by rfl) :
    L2N.PMk X (.Call (.Name x p) (e :: es) [] pos) (tMkO C sp dvs ta) := by
  intro pins s σ H Q I h
  obtain ⟨nm, q, N, bs, bm, sn, sub, ab, col, dd, k0, k1, k2, k3, k5, hC, hbm⟩ := T.cls
  refine wpAny_Call_Name_kw (ld_glob I hg hm ?_ hdb)
  refine PySem.W.callWith_K (h₀ := X.base) I.ok.mod.kin T.kC (thn (ha.run pos pins s σ H _ I h) fun us s1 ⟨vs, H1, I1, r1, hz, q1⟩ => ⟨I1.kIn, ?_⟩) he hpl
  show wpAny _ _ (call (.ref C) us) _ _ _
  obtain ⟨hp, g, dr, tk, os⟩ := s1
  have hsz : hp.objs.size ≤ hp.objs.size + 1 := Nat.le_succ _
  have hn : H1 (hp.objs.size + 1) = none := I1.hok.fresh hsz
  have hq := q1 (hp.objs.size + 1) hn
  have kk : ∀ b o, hp.get? b = some o → ((hp.push (PySem.W.kdv_tup us)).push (PySem.HandSPX.excO C hp.objs.size)).get? b = some o := fun b o e => Heap.get?_push_of_some _ (Heap.get?_push_of_some _ e)
  have hget : ((hp.push (PySem.W.kdv_tup us)).push (PySem.HandSPX.excO C hp.objs.size)).get? (hp.objs.size + 1) = some (PySem.HandSPX.excO C hp.objs.size) := by heap_get
  have I2 : Inv X pins σ (upd H1 (hp.objs.size + 1) (exo (hp.objs.size + 1) C none)) ⟨(hp.push (PySem.W.kdv_tup us)).push (PySem.HandSPX.excO C hp.objs.size), g, dr, tk, os⟩ :=
    I1.laid (t' := tk) (a := hp.objs.size + 1) (o := exo (hp.objs.size + 1) C none) (h' := (hp.push (PySem.W.kdv_tup us)).push (PySem.HandSPX.excO C hp.objs.size)) kk hsz (exo_ok hget)
  have r2 : Vals (V.ref (hp.objs.size + 1) :: (vs ++ dvs)) (Value.ref (hp.objs.size + 1) :: (us ++ ds)) := .cons rfl (r1.append hd)
  have hl : (Value.ref (hp.objs.size + 1) :: us ++ ds).length = ps.length := by
    have e := r2.length
    rw [F1.len _ _ _ _ hq] at e
    exact e.symm
  have hus : us.length ≤ sizeLine := by
    rw [← Paired.length r1, sizeLine_eq]
    omega
  refine wpAny_call (PySem.HandSPX.call_own F.excBase_ValueError (fun Y => PySem.HandSPX.refsVE_contains Y bm hbm) (I1.kIn _ _ hC) (PySem.W.looks_findIn I1.kIn iC) (fun self => PySem.W.bind_fn I1.kIn self tI) hus
    (codeAny_mono (F1.run _ X.stack _ _ ⟨Value.ref (hp.objs.size + 1) :: us, []⟩ (Value.ref (hp.objs.size + 1) :: (us ++ ds)) _ _ (fun _ _ _ => False) (hr.make C us []) (I2.env0.make C us []) (hb _ (Value.ref (hp.objs.size + 1) :: us) I2.kIn hl) r2 hq) fun r s' hq' => ?_))
  cases r with
  | error er => exact hx pins σ _ _ er s' I2 hq'
  | ok fl =>
    cases fl with
    | ret u =>
      obtain ⟨v, H2, os2, bare2, un2, hok2, rv, ev, d, fs, ea, ed, hd1, q2⟩ := hq'
      subst ev
      obtain ⟨h2, g2, d2, t2, os'⟩ := s'
      exact ⟨rv, mk_endN (raises_own T.exC T.tyC) I1 hsz kk un2 hok2 os2 bare2 ea ed hd1 q2⟩
    | next => exact False.elim hq'
    | brk => exact False.elim hq'
    | cont => exact False.elim hq'
end
end Hw

set_option Elab.async false
set_option linter.all false
set_option maxRecDepth 100000
set_option maxHeartbeats 4000000
namespace Hw
open PySem PySem.Spec L2 PyProof PyProof.Rows
/-- _law_heard(call) of k06: what the error tells, None without one or of another class -/
def spHeard1 (P : Program) (w : World) (K : PySem.W.Frag) (mg : Str → Option Value) (base : Heap) (k : Nat) (CS C1 : Addr) : SpL := fun fs h vs H Q _ =>
  ∃ (a : Addr) (G : Hp → Prop) (tl : XK → Hp → VK → Prop), vs = [.ref a] ∧ Act (L2N.CX P w) P w K mg base k a fs H h G tl ∧ G H ∧
    tl (fun cls d H1 => ∃ (Dc dd : Addr) (fds : List (Str × V)) (v : V) (b : Bool), Caught K CS cls d Dc dd ∧ H1 dd = some (.xd fds) ∧ fds.lookup ("value" : Str) = some v ∧ PySem.W.kitOne K (.ref Dc) (.ref C1) = some b ∧ Q (if b = true then v else .non) H1) H
      (fun _ H1 => Q .non H1)
theorem heard1_ok {P : Program} {w : World} {K : PySem.W.Frag} {mg : Str → Option Value} {base : Heap} {st : Stmt} {f : Addr} {fd : FuncData} {k : Nat} {qual er : Str} {CS C1 : Addr} {c1 : Str} {j1 j2 : Nat} {r1 r2 r3 r4 s1 s2 s3 s4 s5 u1 u2 u3 u4 u5 u6 u7 u8 : Pos}
    (F : L2.Fun K "_law_heard" qual st f fd) (S : FnScope ["call", "caught"] ["call"] (defScope st))
    (hb : defBody st = [.Try [.Expr (.Call (.Name "call" u1) [] [] u2) u3] [.ExceptHandler (some (.Name er u4)) (some "caught")
      [.Return (some (.IfExp (.Call (.Name "isinstance" r1) [.Name "caught" r2, .Name c1 r3] [] r4) (.Attribute (.Name "caught" s1) "value" s2) (.Constant .none j1 s3) s4)) s5] u5] [] [] u6,
      .Return (some (.Constant .none j2 u7)) u8])
    (va : (defScope st).names.lookup ("call" : Str) = some .local) (vc : (defScope st).names.lookup ("caught" : Str) = some .local)
    (ge : (defScope st).names.lookup er = some .globalImplicit) (gi : (defScope st).names.lookup ("isinstance" : Str) = some .globalImplicit) (g1 : (defScope st).names.lookup c1 = some .globalImplicit)
    (me : mg er = some (.ref CS)) (mi : mg "isinstance" = none) (m1 : mg c1 = some (.ref C1)) (de : (er == ("__debug__" : Str)) = false) (d1 : (c1 == ("__debug__" : Str)) = false) :
    FnGL P w K mg base CX0 (k + 2) f fd ["call"] (spHeard1 P w K mg base k CS C1) := by
  refine funGL F S (fun fs h vs H Q E hh => ?_) (fun cdv A outer s H vs Q E hr hh => ?_)
  · obtain ⟨_, _, _, rfl, _⟩ := hh
    rfl
  · obtain ⟨a, G, tl, rfl, ac, hg, ht⟩ := hh
    rw [hb]
    refine ⟨_, pss_cons (ps_heardN (X := (cxOf CX0 P w K mg base ["call", "caught"] qual (defScope st) f cdv A outer s H E).nox) (i := 1) (j := 0) (c := .ref CS) (Wout := fun _ _ _ _ => False)
        (ts := fun x cls d D σ H1 => ∃ (Dc dd : Addr), Caught K CS cls d Dc dd ∧ (σ[1]? = some (some (.ref x)) ∧ ∃ (fs : List (Str × V)) (v : V) (b : Bool), H1 dd = some (.xd fs) ∧ fs.lookup ("value" : Str) = some v ∧ PySem.W.kitOne K (.ref Dc) (.ref C1) = some b ∧ D.rt (if b = true then v else .non) H1))
        rfl rfl rfl S.nd rfl vc ⟨ge, de, .inl me⟩ takes0N ac hr.r rfl (.inl va) (fun x oe cls d pn hz hf => ?_) (by decide) (by decide))
      (pss_one (ps_ret pe_non)), ?_⟩
    · refine ⟨fun pins s' σ H1 D I h => ?_⟩
      obtain ⟨Dc, dd, ct, h⟩ := h
      have e1 := ct.cls
      have e2 := ct.dict
      subst e1 e2
      have is1 := pe_isD (X := (cxOf CX0 P w K mg base ["call", "caught"] qual (defScope st) f cdv A outer s H E).nox) (a := x) (pn := pn) (i := 1) (p1 := r1) (p2 := r2) (p3 := r3) (p4 := r4) ct.isC hz.zc hf gi mi rfl (.inl vc) g1 m1 (by decide) (by decide) d1
      have pf := pe_xf (X := (cxOf CX0 P w K mg base ["call", "caught"] qual (defScope st) f cdv A outer s H E).nox) (a := x) (pn := pn) (pos := s2) ct.fld ct.val hz.zc hf (pe_var (i := 1) (pos := s1) rfl (.inl vc) (by decide) (by decide)) rfl
      refine (pss_one (ps_ret (pos := s5) (pe_ifExp (pos := s4) (pt_val is1) pf (pe_non (j := j1) (pos := s3))))).run pins s' σ H1 D I ?_
      obtain ⟨hs, fs, v, b, hdd, hval, k1, q⟩ := h
      refine ⟨hs, ⟨fs, hdd⟩, b, k1, b, rfl, ?_⟩
      cases b with
      | true =>
        rw [if_pos rfl]
        rw [if_pos rfl] at q
        exact ⟨.ref x, hs, rfl, rfl, dd, fs, v, rfl, hdd, hval, q⟩
      | false =>
        rw [if_neg Bool.false_ne_true]
        rw [if_neg Bool.false_ne_true] at q
        exact q
    · refine ⟨_, _, fun cls d H1 h => ?_, fun v H1 h => ?_, rfl, hg, ht⟩
      · obtain ⟨Dc, dd, fds, v, b, ct, e1, e2, k1, q⟩ := h
        have ec := ct.cls
        exact ⟨true, by rw [ec]; exact ct.heal, fun _ x _ => ⟨Dc, dd, ct, rfl, fds, v, b, e1, e2, k1, q⟩, fun z => Bool.noConfusion z⟩
      · exact h
end Hw

set_option Elab.async false
set_option linter.all false
set_option maxRecDepth 100000
set_option maxHeartbeats 4000000
namespace Hw
open PySem PySem.Spec L2 PyProof PyProof.Rows LamX
/-- the law's call where the law's defs make lambdas, and reprs run: lawG with tables -/
theorem lawGT {P : Program} {w : World} {K : PySem.W.Frag} {mg mb : Str → Option Value} {k : Nat} {fa a : Addr} {cs : List (Addr × Addr)} {fd : FuncData} {x : Str} {sp : Sp} {s1 : Shared} {vs : List Value} {ns : List Int}
    (KX : K.In s1.heap) (hns : s1.heap.Ns mainGlobals mg) (hb : s1.heap.Ns builtinsNs mb) (hbb : ∀ x : Str, x ≠ "__name__" → mb x = bootBuiltins x) (hlim : s1.heap.NoLimit) (hgen : s1.gens = #[])
    (hT : ∀ p ∈ cs, s1.heap.get? p.2 = some { cls := .none, data := .fields #[] }) (nT : ∀ p ∈ cs, K.lookup p.2 = none) (hC : ∀ p ∈ cs, PySem.W.CodeHd s1.heap p.1 p.2)
    (hbm : ∃ (bm : Addr) (ob : Obj), mg "__builtins__" = some (.ref bm) ∧ bm ≠ builtinsNs ∧ s1.heap.get? bm = some ob ∧ ob.cls = .type "module" ∧ ob.dict = some builtinsNs ∧ ob.data = .plain)
    (ha : s1.heap.get? a = some { cls := .type "list", data := .seq vs.toArray }) (hi : IntsAre vs ns) (hl : ns.length ≤ sizeLine) (hr : Room k callerA)
    (F : ∀ base : Heap, K.In base → base.Ns mainGlobals mg → (∀ p ∈ cs, TabB base mg p.1 p.2) → FnG P w K mg base CX0 k fa fd [x] sp) (hbind : ∀ (s : Shared) (u : Value), BindsTo s fd ⟨[u], []⟩ [(x, u)])
    (hsp : ∀ H : Hp, (∀ p ∈ cs, H p.2 = some (.tbl #[])) → SqL K H a (ns.map V.int) → sp [.ref a] H (fun v _ => v = .bl true) E0) :
    codeAny (model P w) callerA (.call (.ref fa) ⟨[.ref a], []⟩) (fun r s' => r = .ok (.ret (.bool true)) ∧ OldK s1.heap s'.heap ∧ s'.os = s1.os ∧ AllBare s'.gens) s1 := by
  have rv := vals_ints hi
  let T := cs.map (·.2)
  have inT : ∀ {b : Addr}, b ∈ T → ∃ p ∈ cs, p.2 = b := fun h => List.mem_map.mp h
  have tab : ∀ {b : Addr}, b ∈ T → s1.heap.get? b = some { cls := .none, data := .fields #[] } := fun h => by
    obtain ⟨p, hp, e⟩ := inT h
    rw [← e]; exact hT p hp
  have aT : a ∉ T := fun h => by
    have e := (tab h).symm.trans ha
    cases e
  -- what is tracked at the start: the tables, and the script where the program does not know it
  have core : ∀ H : Hp, (∀ p ∈ cs, H p.2 = some (.tbl #[])) → SqL K H a (ns.map V.int) → HOk P w H s1.heap → (∀ b, H b = none ∨ b ∈ T ∨ (b = a ∧ K.lookup a = none ∧ ∃ o xs, H b = some (.frz o (.lst xs)))) →
      codeAny (model P w) callerA (.call (.ref fa) ⟨[.ref a], []⟩) (fun r s' => r = .ok (.ret (.bool true)) ∧ OldK s1.heap s'.heap ∧ s'.os = s1.os ∧ AllBare s'.gens) s1 := by
    intro H hH hS hok only
    have free : ∀ {b : Addr} {o : Obj}, s1.heap.get? b = some o → (∀ xs n, o.data ≠ .seq xs n) → o.data ≠ .fields #[] → H b = none := fun {b o} e n1 n2 => by
      rcases only b with z | z | ⟨z, _⟩
      · exact z
      · have e' := (tab z).symm.trans e
        cases e'
        exact absurd rfl n2
      · rw [z, ha] at e
        cases e
        exact absurd rfl (n1 _ _)
    have nsH : ∀ {b : Addr} {m : Str → Option Value}, s1.heap.Ns b m → (hidT s1.heap H).Ns b m := fun {b m} ⟨o, es, ep, e, d, r⟩ =>
      ⟨o, es, ep, hidT_get e (free e (fun _ _ z => by rw [d] at z; cases z) (fun z => by rw [d] at z; cases z)), d, r⟩
    have kinH : K.In (hidT s1.heap H) := fun b o e => hidT_get (KX b o e) (by
      rcases only b with z | z | ⟨z, z2, _⟩
      · exact z
      · obtain ⟨p, hp, ep⟩ := inT z
        have := nT p hp
        rw [ep, e] at this
        cases this
      · rw [z, z2] at e
        cases e)
    have modH : Mod K mg (hidT s1.heap H) := ⟨kinH, nsH hns, ⟨mb, nsH hb, hbb⟩, let ⟨mc, h1, h2⟩ := hlim; ⟨mc, nsH h1, h2⟩⟩
    have env0 : Env0 P w K mg (hidT s1.heap H) callerA [] s1 H := ⟨rfl, modH, fun b o e => of_hidT e, Nat.le_of_eq (hidT_size _ _), trivial, fun b hb => (by cases hb), hok, .of_eq hgen⟩
    have tabB : ∀ p ∈ cs, TabB (hidT s1.heap H) mg p.1 p.2 := fun p hp => by
      refine ⟨?_, ?_, fun z => ?_⟩
      · obtain ⟨o, us, file, tf, fl, tg, inF, tx, tt, e, c1, d, i11, rest⟩ := hC p hp
        exact ⟨o, us, file, tf, fl, tg, inF, tx, tt, hidT_get e (free e (fun _ _ z => by rw [d] at z; cases z) (fun z => by rw [d] at z; cases z; cases i11)), c1, d, i11, rest⟩
      · obtain ⟨bm, ob, b1, b2, e, b4, b5, d⟩ := hbm
        refine ⟨bm, ob, b1, b2, fun z => ?_, fun z => ?_, hidT_get e (free e (fun _ _ z => by rw [d] at z; cases z) (fun z => by rw [d] at z; cases z)), b4, b5, d⟩
        · obtain ⟨o, es, ep, e', d', _⟩ := hns
          rw [z, e'] at e
          cases e
          rw [d'] at d
          cases d
        · rw [z, hT p hp] at e
          cases e
          cases d
      · obtain ⟨o, es, ep, e, d, _⟩ := hns
        rw [z, hT p hp] at e
        cases e
        cases d
    refine codeAny_mono ((F _ kinH (nsH hns) tabB).run callerA [] s1 H ⟨[.ref a], []⟩ [.ref a] [.ref a] _ _ ⟨hr, rfl⟩ env0 (hbind s1 (.ref a)) (.cons rfl .nil) (hsp H hH hS)) fun r s' h => ?_
    match r, h with
    | .error e, h => exact False.elim h
    | .ok .next, h => exact False.elim h
    | .ok .brk, h => exact False.elim h
    | .ok .cont, h => exact False.elim h
    | .ok (.ret u), h =>
      obtain ⟨v, H', os, bare, un, hok', r', q⟩ := h
      obtain rfl : v = .bl true := q
      obtain rfl : u = Value.bool true := r'
      have rest : ∀ b o, b ∉ T → s1.heap.get? b = some o → s'.heap.get? b = some o := fun b o nb e => by
        rcases only b with z | z | ⟨_, _, ob, xs, z⟩
        · exact un.keep b o e z (by intro z; cases z) (by intro z; cases z)
        · exact absurd z nb
        · have e1 := (hok b _ z).1
          rw [e] at e1
          cases e1
          exact (hok' b _ (un.frzs b _ _ z)).1
      have more : ∀ {b : Addr}, b ∈ T → ∃ p ∈ cs, p.2 = b ∧ ∃ us : Array Value, s'.heap.get? b = some { cls := .none, data := .fields us } := fun {b} h => by
        obtain ⟨p, hp, e⟩ := inT h
        obtain ⟨us, z⟩ := un.tbls p.2 #[] (hH p hp)
        exact ⟨p, hp, e, _, by rw [← e]; exact hok' p.2 _ z⟩
      refine ⟨rfl, ⟨fun b o e => ?_, fun b o e => ?_⟩, os, bare⟩
      · by_cases hbT : b ∈ T
        · obtain ⟨p, hp, ep, us, hm⟩ := more hbT
          have e' := (tab hbT).symm.trans e
          cases e'
          subst ep
          exact .inr (.inl ⟨((hC p hp).tab (hT p hp)).isCodeTable, rfl, #[], us, rfl, by rw [Array.empty_append]; exact hm⟩)
        · exact .inl (rest b o hbT e)
      · by_cases hbT : b ∈ T
        · obtain ⟨_, _, _, us, hm⟩ := more hbT
          exact ⟨_, hm⟩
        · exact ⟨o, rest b o hbT e⟩
  let H0 : Hp := fun b => if b ∈ T then some (.tbl #[]) else none
  have h0T : ∀ {b : Addr}, b ∈ T → H0 b = some (.tbl #[]) := fun h => if_pos h
  have h0N : ∀ {b : Addr}, b ∉ T → H0 b = none := fun h => if_neg h
  have ok0 : HOk P w H0 s1.heap := fun b u z => by
    by_cases h : b ∈ T
    · rw [h0T h] at z
      cases z
      exact tab h
    · rw [h0N h] at z
      cases z
  cases hk : K.lookup a with
  | some o =>
    have e := KX a o hk
    rw [ha] at e
    cases e
    refine core H0 (fun p hp => h0T (List.mem_map.mpr ⟨p, hp, rfl⟩)) (.inr ⟨_, vs.toArray, _, hk, rfl, rfl, rfl, by rw [List.size_toArray, hi.length]; exact hl, by simpa using rv⟩) ok0 fun b => ?_
    by_cases h : b ∈ T
    · exact .inr (.inl h)
    · exact .inl (h0N h)
  | none =>
    refine core (upd H0 a (.frz { cls := .type "list", data := .seq vs.toArray } (.lst (ns.map V.int)))) (fun p hp => ?_) (.inl (.inr ⟨_, upd_same⟩)) (fun b u z => ?_) fun b => ?_
    · have h : p.2 ∈ T := List.mem_map.mpr ⟨p, hp, rfl⟩
      rw [upd_ne (fun e => aT (by rw [← e]; exact h))]
      exact h0T h
    · by_cases hba : b = a
      · subst hba
        rw [upd_same] at z
        cases z
        exact ⟨ha, by rw [List.length_map]; exact hl, vs, _, rv, ha⟩
      · rw [upd_ne hba] at z
        by_cases h : b ∈ T
        · rw [h0T h] at z
          cases z
          exact tab h
        · rw [h0N h] at z
          cases z
    · by_cases hba : b = a
      · subst hba
        exact .inr (.inr ⟨rfl, hk, _, _, upd_same⟩)
      · rw [upd_ne hba]
        by_cases h : b ∈ T
        · exact .inr (.inl h)
        · exact .inl (h0N h)
/-- what is to be shown of a law whose defs make lambdas: cs, the code objects and their tables -/
structure LawG (l : PySem.W.OpenLaw) (w : World) (K : PySem.W.Frag) (k n : Nat) (x : Str) (mg : Str → Option Value) (fa : Addr) (h : Heap) (fd : FuncData) (cs : List (Addr × Addr)) (sp : Sp) : Prop where
  tabs : ∀ p ∈ cs, h.get? p.2 = some { cls := .none, data := .fields #[] }
  own : ∀ p ∈ cs, K.lookup p.2 = none
  code : ∀ p ∈ cs, PySem.W.CodeHd h p.1 p.2
  binds : ∀ (s : Shared) (u : Value), BindsTo s fd ⟨[u], []⟩ [(x, u)]
  start : ∀ (H : Hp) (a : Addr) (ns : List Int), ns.length ≤ n → (∀ z ∈ ns, Builtin.Int.intBits z ≤ 1048576) → (∀ p ∈ cs, H p.2 = some (.tbl #[])) → SqL K H a (ns.map V.int) → sp [.ref a] H (fun v _ => v = .bl true) E0
  ok : ∀ base : Heap, K.In base → base.Ns mainGlobals mg → (∀ p ∈ cs, TabB base mg p.1 p.2) → FnG l.prog w K mg base CX0 k fa fd [x] sp
theorem walkGT {l : PySem.W.OpenLaw} {n k : Nat} {q : Program} {loose : List Str} {XP : (Str → Option Value) → Heap → Prop} {YP : World → Heap → Prop} {d : DefRec} {K : Params → PySem.W.Frag} {x : Str}
    (hn : l.most = some n) (hn2 : n ≤ sizeLine) (hdf : d.params.defaults = []) (hr : Room k callerA) (hY : ∀ (w : World) (h : Heap), YP w h → (K w.params).In h)
    (F : ∀ (w : World) (mg : Str → Option Value) (fa : Addr) (h : Heap), YP w h → (K w.params).In h → h.Ns mainGlobals mg → mg d.name = some (.ref fa) → ∃ fd cs sp, LawG l w (K w.params) k n x mg fa h fd cs sp) :
    PySem.W.WalkO q loose XP YP l.row.toRowW d [] (fun f vs => PySem.call f vs) := by
  refine Att.attach_callB hn hdf fun w s0 s1 mg mb fa o pm cd doc a vs ns G Y ho hd hcd hmg hobj hints hlen hbits hgen => ?_
  have KX := hY w _ Y
  obtain ⟨fd, cs, sp, L⟩ := F w mg fa _ Y KX G.T.g hmg
  exact lawGT KX G.T.g G.T.b G.T.builtins G.T.nolimit hgen L.tabs L.own L.code G.T.bmain hobj hints (Nat.le_trans hlen hn2) hr L.ok L.binds (fun H hH hS => L.start H a ns hlen hbits hH hS)
end Hw

set_option Elab.async false
set_option linter.all false
set_option maxRecDepth 100000
set_option maxHeartbeats 4000000
namespace Hw
open PySem PySem.Spec L2 PyProof PyProof.Rows
/-- the facts of an error class, to be decided over a written part -/
def caughtB (K : PySem.W.Frag) (CS Dc : Addr) : Bool :=
  [decide (PySem.W.findIn K (.ref Dc) "__getattribute__" = some (some (.builtin "BaseException.__getattribute__"))), decide (PySem.W.findIn K (.ref Dc) "__getattr__" = some none), decide (PySem.W.subIn K (.ref Dc) (.type "BaseException") = some true),
   PySem.W.hasDictIn K Dc, decide (PySem.W.findIn K (.ref Dc) "__class__" = some (some (.builtin "object.__class__"))), decide (PySem.W.specialIn K (.builtin "object.__class__") "__get__" = some (some (.builtin "getset_descriptor.__get__"))),
   decide (PySem.W.takesIn K (.builtin "object.__class__") = some true), decide (PySem.W.mroIn K Dc (.type "object") = some true), decide (PySem.W.findIn K (.ref Dc) "value" = some none), decide (PySem.W.exmOne K (.ref Dc) (.ref CS) = some true)].all id
theorem caught_by {K : PySem.W.Frag} {CS Dc dd : Addr} (h : caughtB K CS Dc = true) : Caught K CS (.ref Dc) (some dd) Dc dd := by
  unfold caughtB at h
  simp only [List.all_cons, List.all_nil, Bool.and_true, id, Bool.and_eq_true, decide_eq_true_eq] at h
  obtain ⟨h1, h2, h3, h4, h5, h6, h7, h8, h9, h10⟩ := h
  exact ⟨rfl, rfl, h10, ⟨h1, h2, h3, h4, h5, h6, h7, h8⟩, ⟨h1, h2, h3, h4⟩, h9⟩
end Hw

set_option Elab.async false
set_option linter.all false
set_option maxRecDepth 100000
set_option maxHeartbeats 4000000
namespace Hw
open PySem PySem.Spec L2 PyProof PyProof.Rows
/-! the package's errors, raised -/
/-- a reading by any stronger wish -/
def tMono (te : TE) : TE := fun σ H Q => ∃ Q0 : VK, te σ H Q0 ∧ ∀ v H', Q0 v H' → Q v H'
theorem pe_mono {X : Cx} {e : Expr} {te : TE} (h : PE X e te) : PE X e (tMono te) := by
  refine ⟨fun pins s σ H Q I hh => ?_⟩
  obtain ⟨Q0, h0, hm⟩ := hh
  exact thn (h.run pins s σ H Q0 I h0) fun u s1 ⟨v, H1, I1, r, q⟩ => ⟨v, H1, I1, r, hm _ _ q⟩
/-- C(e): raised, it tells e's value -/
def tHeal (C : Addr) (te : TE) : L2.St → Hp → XK → Prop := fun σ H Q => te σ H fun v H1 => ∀ d, H1 d = none → Q (.ref C) (some d) (upd H1 d (.xd [("value", v)]))
theorem pmk_heal {X : Cx} {x : Str} {C fI : Addr} {k : Nat} {fd : FuncData} {e : Expr} {te : TE} {p pos : Pos} (T : XCls X.K fI C) (F1 : FnOk X.prog X.w X.K X.mg X.base CX0 k fI fd ["self", "value"] (spIniX X.K)) (hr : Room (k + 1) X.A) (hb : Binds X.K fd ["self", "value"] [])
    (hg : Gl X x) (hm : X.mg x = some (.ref C)) (ha : PE X e te) (hdb : (x == ("__debug__" : Str)) = false := by decide) (he : starEach [e] X.env = (false, eval e X.env) :: starEach [] X.env := by rfl) (hpl : (backTo pos (starEach [] X.env)).any (·.1) = false := by rfl) :
    L2N.PMk X (.Call (.Name x p) [e] [] pos) (tHeal C te) := by
  intro pins s σ H Q I h
  refine (pmk_oexN (p := p) (pos := pos) T.o T.ini T.tI F1 hr hb .nil pass0 hg hm (pa_cons (pe_mono ha) pa_nil he) hdb he hpl) pins s σ H Q I ?_
  refine ⟨_, h, fun v H1 q => ⟨by show 1 ≤ 1000; decide, fun a na => ⟨a, C, fI, v, rfl, T, upd_same, fun dx nd ne => ⟨rfl, dx, [("value", v)], upd_same, ?_, ?_, ?_⟩⟩⟩⟩
  · rw [upd_ne ne]; exact upd_same
  · rw [upd_ne ne] at nd; exact nd
  · rw [upd_ne ne] at nd
    have e : upd (del (upd (upd (upd H1 a (exo a C none)) dx (exd dx [("value", v)])) a (exo a C (some dx))) a) dx (.xd [("value", v)]) = upd H1 dx (.xd [("value", v)]) := by
      funext b
      by_cases h1 : b = dx
      · subst h1; rw [upd_same, upd_same]
      · rw [upd_ne h1, upd_ne h1]
        by_cases h2 : b = a
        · subst h2; rw [del_same]; exact na.symm
        · rw [del_ne h2, upd_ne h2, upd_ne h1, upd_ne h2]
    rw [e]
    exact q dx nd
theorem rs_expr {te : TE} {u : TS} {D : Ends} {σ : L2.St} {H : Hp} (h : te σ H fun _ H1 => u D σ H1) : tSeq (tDrop te) u D σ H := h
/-- as Fun.ok, for a def that may raise, the exception's context being None -/
theorem okN {P : Program} {w : World} {K : PySem.W.Frag} {mg : Str → Option Value} {base : Heap} {x qual : Str} {st : Stmt} {f : Addr} {fd : FuncData} {N ps : List Str} {k : Nat} {sp : Sp} (F : Fun K x qual st f fd) (S : FnScope N ps (defScope st)) (len : ∀ vs H Q E, sp vs H Q E → vs.length = ps.length)
    (hbody : ∀ (cdv : Value) (A : Around) (outer : List Env) (s : Shared) (H : Hp) (vs : List V) (Q : VK) (E : XK), Room k (A.deeper (envOfC qual (defScope st) s.heap.objs.size f cdv)) → sp vs H Q E →
      ∃ t, PSs (cxOf (L2N.CX P w) P w K mg base N qual (defScope st) f cdv A outer s H E) (defBody st) t ∧ t { nx := fun _ H' => Q .non H', rt := Q } (start N vs) H) : FnOk P w K mg base (L2N.CX P w) (k + 1) f fd ps sp := by
  obtain ⟨oc, od, kV, doc, pm, an, cdv, ct, osl, rfl, lk, hcd⟩ := F.ex
  exact fn_of lk hcd S len fun A outer s H vs Q E hr hsp => hbody cdv A outer s H vs Q E hr hsp
section
variable {P : Program} {w : World} {K : PySem.W.Frag} {mg : Str → Option Value} {base : Heap} {N : List Str} {qual : Str} {sc : Scope} {f : Addr} {cdv : Value} {A : Around} {outer : List Env} {s : Shared} {H : Hp} {E : XK}
theorem takesN : L2N.Takes (cxOf (L2N.CX P w) P w K mg base N qual sc f cdv A outer s H E) (fun cls d _ H => E cls d H) := L2N.takes_of rfl rfl rfl rfl
theorem passN : Passes (L2N.CX P w) (cxOf (L2N.CX P w) P w K mg base N qual sc f cdv A outer s H E) E := L2N.passes_call takesN fun _ _ _ _ h => h
/-- raise C(e), in a def made by okN -/
theorem ps_heal {x : Str} {C fI : Addr} {k : Nat} {fd : FuncData} {e : Expr} {te : TE} {p pos pos2 : Pos} (T : XCls K fI C) (F1 : FnOk P w K mg base CX0 k fI fd ["self", "value"] (spIniX K)) (hr : Room (k + 1) (A.deeper (envOfC qual sc s.heap.objs.size f cdv))) (hb : Binds K fd ["self", "value"] [])
    (hg : Gl (cxOf (L2N.CX P w) P w K mg base N qual sc f cdv A outer s H E) x) (hm : mg x = some (.ref C)) (ha : PE (cxOf (L2N.CX P w) P w K mg base N qual sc f cdv A outer s H E) e te) (hdb : (x == ("__debug__" : Str)) = false := by decide)
    (he : starEach [e] (cxOf (L2N.CX P w) P w K mg base N qual sc f cdv A outer s H E).env = (false, eval e (cxOf (L2N.CX P w) P w K mg base N qual sc f cdv A outer s H E).env) :: starEach [] (cxOf (L2N.CX P w) P w K mg base N qual sc f cdv A outer s H E).env := by rfl) (hpl : (backTo pos (starEach [] (cxOf (L2N.CX P w) P w K mg base N qual sc f cdv A outer s H E).env)).any (·.1) = false := by rfl) :
    PS (cxOf (L2N.CX P w) P w K mg base N qual sc f cdv A outer s H E) (.Raise (some (.Call (.Name x p) [e] [] pos)) none pos2) (fun _ σ H1 => te σ H1 fun v H2 => ∀ d, H2 d = none → E (.ref C) (some d) (upd H2 d (.xd [("value", v)]))) :=
  L2N.ps_raise rfl takesN (pmk_heal T F1 hr hb hg hm ha hdb he hpl)
end
end Hw

set_option Elab.async false
set_option linter.all false
set_option maxRecDepth 100000
set_option maxHeartbeats 4000000
namespace Hw
open PySem L2 PyProof.Rows
abbrev sWithin : Stmt := topS 5
abbrev sChkR : Stmt := topS 32
abbrev sChkB : Stmt := topS 43
abbrev sIniH : Stmt := inClass (topS 9) 0
section
variable {P : Program} {w : World} {K : PySem.W.Frag} {mg : Str → Option Value} {base : Heap}
theorem scIniH : FnScope ["self", "value"] ["self", "value"] (defScope sIniH) := ⟨rfl, rfl, rfl, by decide +kernel, rfl, by decide +kernel, by decide +kernel⟩
/-- HealError.__init__ -/
theorem ok_iniH {f : Addr} {fd : FuncData} {k : Nat} (F : Fun K "__init__" "HealError.__init__" sIniH f fd) : FnOk P w K mg base CX0 (k + 1) f fd ["self", "value"] (spIniX K) := by
  refine F.ok scIniH (fun vs H Q E h => ?_) (fun cdv A outer s H vs Q E hr h => ?_)
  · obtain ⟨a, C, fI, v, rfl, _⟩ := h
    rfl
  · obtain ⟨a, C, fI, v, rfl, T, ha, q⟩ := h
    refine ⟨_, pss_one (ps_ost (pv 0) (pv 1) rfl), ?_⟩
    exact ⟨v, rfl, .ref a, rfl, a, C, rfl, T.o, T.noV, .inl ⟨ha, q⟩⟩
end
/-! what isinstance says of data -/
def tyD : PyData → String
  | .none => "NoneType"
  | .bool _ => "bool"
  | .int _ => "int"
  | .str _ => "str"
  | .list _ => "list"
  | .tuple _ => "tuple"
  | .dict _ => "dict"
theorem Dx.tyx {K : PySem.W.Frag} {a : Addr} {H : Hp} {v : V} {d : PyData} (h : Dx a H v d) : TyX K H v (.type (tyD d)) := by
  cases h with
  | flat e =>
    cases v with
    | non => cases e; exact .base .non
    | bl b => cases e; exact .base (.bl b)
    | int i => cases e; exact .base (.int i)
    | str x => cases e; exact .base (.str x)
    | byt b => cases e
    | flt b => cases e
    | ref a => cases e
    | ty n => cases e
  | lst h1 _ _ => exact .base (.lst h1)
  | tup h1 _ _ => exact .base (.tup h1)
  | dct h1 _ _ _ => exact .base (.dK h1)
def isStrD : PyData → Bool
  | .str _ => true
  | _ => false
def isIntD : PyData → Bool
  | .int _ => true
  | .bool _ => true
  | _ => false
def isBoolD : PyData → Bool
  | .bool _ => true
  | _ => false
theorem kit_str {K : PySem.W.Frag} (d : PyData) : PySem.W.kitOne K (.type (tyD d)) (.type "str") = some (isStrD d) := by
  cases d with
  | none => exact kit_ty (show kitB "NoneType" "str" = some false by decide +kernel)
  | bool b => exact kit_ty (show kitB "bool" "str" = some false by decide +kernel)
  | int i => exact kit_ty (show kitB "int" "str" = some false by decide +kernel)
  | str x => exact kit_ty (show kitB "str" "str" = some true by decide +kernel)
  | list l => exact kit_ty (show kitB "list" "str" = some false by decide +kernel)
  | tuple l => exact kit_ty (show kitB "tuple" "str" = some false by decide +kernel)
  | dict l => exact kit_ty (show kitB "dict" "str" = some false by decide +kernel)
theorem kit_int {K : PySem.W.Frag} (d : PyData) : PySem.W.kitOne K (.type (tyD d)) (.type "int") = some (isIntD d) := by
  cases d with
  | none => exact kit_ty (show kitB "NoneType" "int" = some false by decide +kernel)
  | bool b => exact kit_ty (show kitB "bool" "int" = some true by decide +kernel)
  | int i => exact kit_ty (show kitB "int" "int" = some true by decide +kernel)
  | str x => exact kit_ty (show kitB "str" "int" = some false by decide +kernel)
  | list l => exact kit_ty (show kitB "list" "int" = some false by decide +kernel)
  | tuple l => exact kit_ty (show kitB "tuple" "int" = some false by decide +kernel)
  | dict l => exact kit_ty (show kitB "dict" "int" = some false by decide +kernel)
theorem kit_bool {K : PySem.W.Frag} (d : PyData) : PySem.W.kitOne K (.type (tyD d)) (.type "bool") = some (isBoolD d) := by
  cases d with
  | none => exact kit_ty (show kitB "NoneType" "bool" = some false by decide +kernel)
  | bool b => exact kit_ty (show kitB "bool" "bool" = some true by decide +kernel)
  | int i => exact kit_ty (show kitB "int" "bool" = some false by decide +kernel)
  | str x => exact kit_ty (show kitB "str" "bool" = some false by decide +kernel)
  | list l => exact kit_ty (show kitB "list" "bool" = some false by decide +kernel)
  | tuple l => exact kit_ty (show kitB "tuple" "bool" = some false by decide +kernel)
  | dict l => exact kit_ty (show kitB "dict" "bool" = some false by decide +kernel)
theorem Dx.int {a : Addr} {H : Hp} {v : V} {i : Int} (h : Dx a H v (.int i)) : v = .int i := by
  cases h with
  | flat e => cases v <;> first | (cases e; rfl) | cases e
theorem Dx.str {a : Addr} {H : Hp} {v : V} {z : Str} (h : Dx a H v (.str z)) : v = .str z := by
  cases h with
  | flat e => cases v <;> first | (cases e; rfl) | cases e
/-- texts of a tuple of the module -/
def strOf : Value → Option Str
  | .str z _ => some z
  | _ => none
def tupStrB (K : PySem.W.Frag) (a : Addr) (xs : List Str) : Bool := match K.lookup a with
  | some ⟨.type "tuple", _, .seq its _, _⟩ => its.toList.map strOf == xs.map some && decide (its.size ≤ 1000)
  | _ => false
theorem vals_strOf : ∀ {us : List Value} {xs : List Str}, us.map strOf = xs.map some → Vals (xs.map V.str) us
  | [], [], _ => .nil
  | [], _ :: _, e => by cases e
  | _ :: _, [], e => by cases e
  | u :: us, x :: xs, e => by
    injection e with e1 e2
    refine .cons ?_ (vals_strOf e2)
    cases u <;> first | (cases e1; exact ⟨_, rfl⟩) | cases e1
theorem tupStrB_ok {K : PySem.W.Frag} {a : Addr} {xs : List Str} (h : tupStrB K a xs = true) (H : Hp) : SqT K H a (xs.map V.str) := by
  unfold tupStrB at h
  split at h
  · rename_i dd its n sl ho
    simp only [Bool.and_eq_true, beq_iff_eq, decide_eq_true_eq] at h
    exact .inr ⟨_, its, _, ho, rfl, rfl, by rw [sizeLine_eq]; omega, vals_strOf h.1⟩
  · cases h
def rulesL : List Str := ["none", "line", "ring", "star", "least", "all"]
def breaksL : List Str := ["more", "far", "parted", "changes"]
def isRuleD : PyData → Bool
  | .str z => decide (z ∈ rulesL)
  | _ => false
def isKindD : PyData → Bool
  | .str z => decide (z ∈ breaksL)
  | _ => false
def withinD (lo hi : Int) : PyData → Bool
  | .int g => decide (lo ≤ g ∧ g ≤ hi)
  | _ => false
def goalD (dk dg : PyData) : Bool := match dk with
  | .str z => if z = "parted" then withinD 0 0 dg else withinD 1 40 dg
  | _ => withinD 1 40 dg
theorem inV_strs {z : Str} {xs : List Str} : inV (V.str z) (xs.map V.str) = decide (z ∈ xs) := by
  unfold inV
  rw [List.any_map]
  induction xs with
  | nil => rfl
  | cons x xs ih =>
    rw [List.any_cons, ih]
    by_cases h : z = x
    · subst h
      simp [eqV]
    · have : ¬ x = z := fun e => h e.symm
      simp [eqV, h, this]
theorem all_flat_strs (xs : List Str) : (xs.map V.str).all flatV = true := by
  rw [List.all_map]
  exact List.all_eq_true.mpr fun _ _ => rfl
def spWithinA : Sp := fun vs H Q _ => ∃ (v : V) (a : Addr) (d : PyData) (lo hi : Int), vs = [v, .int lo, .int hi] ∧ Dx a H v d ∧ Q (.bl (withinD lo hi d)) H
def spChkR (cR : Addr) : Sp := fun vs H Q E => ∃ (v : V) (a : Addr) (d : PyData), vs = [v] ∧ Dx a H v d ∧ (isRuleD d = true → Q .non H) ∧ (isRuleD d = false → ∀ dd, H dd = none → E (.ref cR) (some dd) (upd H dd (.xd [("value", v)])))
section
variable {P : Program} {w : World} {K : PySem.W.Frag} {mg : Str → Option Value} {base : Heap}
theorem scWithin : FnScope ["value", "least", "most"] ["value", "least", "most"] (defScope sWithin) := ⟨rfl, rfl, rfl, by decide +kernel, rfl, by decide +kernel, by decide +kernel⟩
theorem ok_withinA {f : Addr} {fd : FuncData} {k : Nat} (F : Fun K "is_within" "is_within" sWithin f fd) (B : Blt mg) (bi : mg "isinstance" = none) (bb : mg "bool" = none) : FnOk P w K mg base CX0 (k + 1) f fd ["value", "least", "most"] spWithinA := by
  refine F.ok scWithin (fun vs H Q E h => ?_) (fun cdv A outer s H vs Q E hr h => ?_)
  · obtain ⟨v, a, d, lo, hi, rfl, _⟩ := h
    rfl
  · obtain ⟨v, a, d, lo, hi, rfl, hd, q⟩ := h
    refine ⟨_, pss_cons (ps_if (PW.pt (pw_or (pt_not (pt_val (pe_callB call_isi (by rfl) bi PyProof.Rows.boot_isinstance (pa_cons (pv 0) (pa_cons (pe_bltn (v := .ty "int") (by rfl) B.int (by decide +kernel) rfl) pa_nil)))))
        (pw_or1 (pt_val (pe_callB call_isi (by rfl) bi PyProof.Rows.boot_isinstance (pa_cons (pv 0) (pa_cons (pe_bltn (v := .ty "bool") (by rfl) bb (by decide +kernel) rfl) pa_nil))))))) (pss_one (ps_ret pe_bl)) pss_nil)
      (pss_one (ps_ret (pe_chain op_le op_le (pv 1) (pv 0) (pv 2)))), ?_⟩
    refine rs_no ?_
    refine ⟨v, rfl, v, .ty "int", .type (tyD d), .type "int", isIntD d, rfl, .ty _, hd.tyx, kit_int d, isIntD d, rfl, ?_⟩
    by_cases hi' : isIntD d = true
    · rw [hi']
      refine ⟨v, rfl, v, .ty "bool", .type (tyD d), .type "bool", isBoolD d, rfl, .ty _, hd.tyx, kit_bool d, isBoolD d, rfl, ?_⟩
      by_cases hb : isBoolD d = true
      · rw [hb]
        show if true = true then _ else _
        rw [if_pos rfl]
        have e : withinD lo hi d = false := by cases d <;> first | rfl | cases hb
        rw [e] at q
        exact q
      · rw [Bool.not_eq_true] at hb
        rw [hb]
        show if false = true then _ else _
        rw [if_neg Bool.false_ne_true]
        obtain ⟨g, rfl⟩ : ∃ g, d = .int g := by
          cases d with
          | int g => exact ⟨g, rfl⟩
          | bool b => cases hb
          | _ => cases hi'
        obtain rfl := hd.int
        refine ⟨.int lo, rfl, .int g, rfl, lo, g, rfl, rfl, decide (lo ≤ g), rfl, ?_⟩
        by_cases h1 : lo ≤ g
        · rw [decide_eq_true h1]
          refine ⟨.int hi, rfl, g, hi, rfl, rfl, ?_⟩
          have e : decide (g ≤ hi) = withinD lo hi (.int g) := by simp [withinD, h1]
          show Q (.bl (decide (g ≤ hi))) H
          rw [e]; exact q
        · rw [decide_eq_false h1]
          have e : withinD lo hi (.int g) = false := decide_eq_false fun z => h1 z.1
          rw [e] at q; exact q
    · rw [Bool.not_eq_true] at hi'
      rw [hi']
      show if true = true then _ else _
      rw [if_pos rfl]
      have e : withinD lo hi d = false := by cases d <;> first | rfl | cases hi'
      rw [e] at q
      exact q
theorem scChkR : FnScope ["value"] ["value"] (defScope sChkR) := ⟨rfl, rfl, rfl, by decide +kernel, rfl, by decide +kernel, by decide +kernel⟩
theorem ok_chkr {f fI cR aR : Addr} {fd fdI : FuncData} {k : Nat} (F : Fun K "check_rule" "check_rule" sChkR f fd) (bi : mg "isinstance" = none) (bs : mg "str" = none) (gR : mg "RULES" = some (.ref aR)) (hR : ∀ H, SqT K H aR (rulesL.map V.str))
    (T : XCls K fI cR) (gC : mg "BadRule" = some (.ref cR)) (GI : FnOk P w K mg base CX0 k fI fdI ["self", "value"] (spIniX K)) (bI : Binds K fdI ["self", "value"] []) :
    FnOk P w K mg base (L2N.CX P w) (k + 2) f fd ["value"] (spChkR cR) := by
  refine okN F scChkR (fun vs H Q E h => ?_) (fun cdv A outer s H vs Q E hr h => ?_)
  · obtain ⟨v, a, d, rfl, _⟩ := h
    rfl
  · obtain ⟨v, a, d, rfl, hd, q1, q2⟩ := h
    refine ⟨_, pss_one (ps_if (PW.pt (pw_or (pt_not (pt_val (pe_callB call_isi (by rfl) bi PyProof.Rows.boot_isinstance (pa_cons (pv 0) (pa_cons (pe_bltn (v := .ty "str") (by rfl) bs (by decide +kernel) rfl) pa_nil)))))
        (pw_or1 (pt_cmpR op_notIn_seq (pv 0) (pe_glob (v := .ref aR) rfl gR rfl) (by rfl))))) (pss_one (ps_heal T GI hr bI rfl gC (pv 0))) pss_nil), ?_⟩
    refine ⟨v, rfl, v, .ty "str", .type (tyD d), .type "str", isStrD d, rfl, .ty _, hd.tyx, kit_str d, isStrD d, rfl, ?_⟩
    by_cases hs : isStrD d = true
    · obtain ⟨z, rfl⟩ : ∃ z, d = .str z := by
        cases d with
        | str z => exact ⟨z, rfl⟩
        | _ => cases hs
      obtain rfl := hd.str
      refine ⟨.str z, rfl, aR, rulesL.map V.str, rfl, .inr (hR _), rfl, all_flat_strs _, _, rfl, ?_⟩
      rw [if_pos rfl, inV_strs]
      have e : isRuleD (.str z) = decide (z ∈ rulesL) := rfl
      by_cases hz : z ∈ rulesL
      · rw [decide_eq_true hz] at e ⊢
        exact q1 e
      · rw [decide_eq_false hz] at e ⊢
        exact ⟨.str z, rfl, q2 e⟩
    · rw [Bool.not_eq_true] at hs
      rw [hs]
      have e : isRuleD d = false := by cases d <;> first | rfl | cases hs
      exact ⟨v, rfl, q2 e⟩
end
end Hw

set_option Elab.async false
set_option linter.all false
set_option maxRecDepth 100000
set_option maxHeartbeats 4000000
namespace Hw
open PySem L2 PyProof.Rows
abbrev sBrk : Stmt := topS 44
abbrev sShows : Stmt := topS 45
/-- which of rule, kind, goal is the first that is not fine -/
def brkBad (dr dk dg : PyData) : Option Nat := if isRuleD dr = false then some 0 else if isKindD dk = false then some 1 else if goalD dk dg = false then some 2 else none
def spChkB (c : Nat → Addr) : Sp := fun vs H Q E => ∃ (r k g : V) (a : Addr) (dr dk dg : PyData), vs = [r, k, g] ∧ Dx a H r dr ∧ Dx a H k dk ∧ Dx a H g dg ∧ (brkBad dr dk dg = none → ∀ H', Same H H' → Q .non H') ∧
  ∀ i, brkBad dr dk dg = some i → ∀ v, [r, k, g][i]? = some v → ∀ dd H', Same H H' → H' dd = none → E (.ref (c i)) (some dd) (upd H' dd (.xd [("value", v)]))
theorem goal_str {z : Str} (dg : PyData) : goalD (.str z) dg = if z = "parted" then withinD 0 0 dg else withinD 1 40 dg := rfl
section
variable {P : Program} {w : World} {K : PySem.W.Frag} {mg : Str → Option Value} {base : Heap}
theorem scChkB : FnScope ["rule", "kind", "goal", "least", "most"] ["rule", "kind", "goal"] (defScope sChkB) := ⟨rfl, rfl, rfl, by decide +kernel, rfl, by decide +kernel, by decide +kernel⟩
theorem ok_chkb {f fI fR fW aB : Addr} {c : Nat → Addr} {fd fdI fdR fdW : FuncData} {k j : Nat} (hj : j + 1 ≤ k) (F : Fun K "check_break" "check_break" sChkB f fd) (bi : mg "isinstance" = none) (bs : mg "str" = none) (gB : mg "BREAKS" = some (.ref aB)) (hB : ∀ H, SqT K H aB (breaksL.map V.str)) (hM : ∃ t, mg "MOST_GOAL" = some (.int 40 t))
    (T1 : XCls K fI (c 1)) (g1 : mg "BadKind" = some (.ref (c 1))) (T2 : XCls K fI (c 2)) (g2 : mg "BadNumber" = some (.ref (c 2))) (GI : FnOk P w K mg base CX0 j fI fdI ["self", "value"] (spIniX K)) (bI : Binds K fdI ["self", "value"] [])
    (GR : FnOk P w K mg base (L2N.CX P w) k fR fdR ["value"] (spChkR (c 0))) (gR : mg "check_rule" = some (.ref fR)) (kR : PySem.W.keepIn K (.ref fR) = true) (bR : Binds K fdR ["value"] [])
    (GW : FnOk P w K mg base CX0 k fW fdW ["value", "least", "most"] spWithinA) (gW : mg "is_within" = some (.ref fW)) (kW : PySem.W.keepIn K (.ref fW) = true) (bW : Binds K fdW ["value", "least", "most"] []) :
    FnOk P w K mg base (L2N.CX P w) (k + 1) f fd ["rule", "kind", "goal"] (spChkB c) := by
  refine okN F scChkB (fun vs H Q E h => ?_) (fun cdv A outer s H vs Q E hr h => ?_)
  · obtain ⟨r, k', g, a, dr, dk, dg, rfl, _⟩ := h
    rfl
  · obtain ⟨r, kd, g, a, dr, dk, dg, rfl, hdr, hdk, hdg, q1, q2⟩ := h
    obtain ⟨tM, gM⟩ := hM
    refine ⟨_, pss_cons (ps_expr (pe_call GR hr (by rfl) gR kR bR .nil passN (pa_cons (pv 0) pa_nil)))
      (pss_cons (ps_if (PW.pt (pw_or (pt_not (pt_val (pe_callB call_isi (by rfl) bi PyProof.Rows.boot_isinstance (pa_cons (pv 1) (pa_cons (pe_bltn (v := .ty "str") (by rfl) bs (by decide +kernel) rfl) pa_nil)))))
        (pw_or1 (pt_cmpR op_notIn_seq (pv 1) (pe_glob (v := .ref aB) rfl gB rfl) (by rfl))))) (pss_one (ps_heal T1 GI (hr.mono hj) bI rfl g1 (pv 1))) pss_nil)
      (pss_cons (ps_asg (pe_ifExp (pt_cmpR op_eq (pv 1) pe_str (nomark _)) (pe_tup (pa_cons pe_int (pa_cons pe_int pa_nil))) (pe_tup (pa_cons pe_int (pa_cons (pe_glob (v := .int 40) rfl gM ⟨_, rfl⟩) pa_nil)))) (pg_tup rfl (pgs_cons (pg_name (i := 3) scChkB.nd rfl (.inl rfl)) (pgs_cons (pg_name (i := 4) scChkB.nd rfl (.inl rfl)) pgs_nil))))
      (pss_one (ps_if (pt_not (pt_val (pe_call GW hr (by rfl) gW kW bW .nil pass0 (pa_cons (pv 2) (pa_cons (pv 3) (pa_cons (pv 4) pa_nil)))))) (pss_one (ps_heal T2 GI (hr.mono hj) bI rfl g2 (pv 2))) pss_nil)))), ?_⟩
    refine rs_expr ?_
    refine ⟨r, rfl, r, a, dr, rfl, hdr, fun er => ?_, fun er => ?_⟩
    · refine rs_no ?_
      refine ⟨kd, rfl, kd, .ty "str", .type (tyD dk), .type "str", isStrD dk, rfl, .ty _, hdk.tyx, kit_str dk, isStrD dk, rfl, ?_⟩
      by_cases hs : isStrD dk = true
      · obtain ⟨z, rfl⟩ : ∃ z, dk = .str z := by
          cases dk with
          | str z => exact ⟨z, rfl⟩
          | _ => cases hs
        obtain rfl := hdk.str
        refine ⟨.str z, rfl, aB, breaksL.map V.str, rfl, .inr (hB _), rfl, all_flat_strs _, _, rfl, ?_⟩
        rw [if_pos rfl, inV_strs]
        have e : isKindD (.str z) = decide (z ∈ breaksL) := rfl
        by_cases hz : z ∈ breaksL
        · rw [decide_eq_true hz] at e ⊢
          show if false = true then _ else _
          rw [if_neg Bool.false_ne_true]
          refine rs_t ?_
          refine ⟨.str z, rfl, rfl, _, rfl, ?_⟩
          have fin : ∀ (lo hi : Int) (H1 : Hp), Same H H1 → goalD (.str z) dg = withinD lo hi dg → tIfS (tNot (tB (tCall spWithinA [] E0 (tCons (tVar 2) (tCons (tVar 3) (tCons (tVar 4) tNil)))))) (fun _ σ H1 => tVar 2 σ H1 fun v H2 => ∀ d, H2 d = none → E (.ref (c 2)) (some d) (upd H2 d (.xd [("value", v)]))) tNext { nx := fun _ H' => Q .non H', rt := Q }
              [some r, some (.str z), some g, some (.int lo), some (.int hi)] H1 := fun lo hi H1 s1 eg => by
            refine ⟨g, rfl, .int lo, rfl, .int hi, rfl, g, a, dg, lo, hi, rfl, Dx.keep (.of s1) _ _ hdg, _, rfl, ?_⟩
            by_cases hg : withinD lo hi dg = true
            · rw [hg] at eg ⊢
              exact q1 (by unfold brkBad; rw [er, e, eg]; rfl) H1 s1
            · rw [Bool.not_eq_true] at hg
              rw [hg] at eg ⊢
              exact ⟨g, rfl, fun dd hd => q2 2 (by unfold brkBad; rw [er, e, eg]; rfl) _ rfl dd H1 s1 hd⟩
          by_cases hp : z = "parted"
          · rw [decide_eq_true (show V.str z = V.str "parted" by rw [hp])]
            show if true = true then _ else _
            rw [if_pos rfl]
            refine ⟨by show 2 ≤ sizeLine; decide, fun p np => g2_of (sqt_of upd_same) ?_⟩
            exact fin 0 0 _ (same_upd np) (by rw [goal_str, if_pos hp])
          · rw [decide_eq_false (show ¬ V.str z = V.str "parted" from fun y => hp (V.str.inj y))]
            show if false = true then _ else _
            rw [if_neg Bool.false_ne_true]
            refine ⟨by show 2 ≤ sizeLine; decide, fun p np => g2_of (sqt_of upd_same) ?_⟩
            exact fin 1 40 _ (same_upd np) (by rw [goal_str, if_neg hp])
        · rw [decide_eq_false hz] at e ⊢
          have eb : brkBad dr (.str z) dg = some 1 := by unfold brkBad; rw [er, e]; rfl
          exact ⟨.str z, rfl, fun dd hd => q2 1 eb _ rfl dd _ (Same.refl _) hd⟩
      · rw [Bool.not_eq_true] at hs
        rw [hs]
        have e : isKindD dk = false := by cases dk <;> first | rfl | cases hs
        have eb : brkBad dr dk dg = some 1 := by unfold brkBad; rw [er, e]; rfl
        exact ⟨kd, rfl, fun dd hd => q2 1 eb _ rfl dd _ (Same.refl _) hd⟩
    · have eb : brkBad dr dk dg = some 0 := by unfold brkBad; rw [er]; rfl
      exact fun dd hd => q2 0 eb _ rfl dd _ (Same.refl _) hd
end
end Hw

set_option Elab.async false
set_option linter.all false
set_option maxRecDepth 100000
set_option maxHeartbeats 4000000
namespace Hw
open PySem L2 PyProof.Rows
def sA : Str := "a"
def sComeA : Str := "come a"
/-- what may be shown: None, a text, the history of one coming -/
inductive ShowV (C : Addr) (H : Hp) : V → Prop
  | non : ShowV C H .non
  | str (z : Str) : ShowV C H (.str z)
  | his {x : Addr} : HistO C H x [.come sA []] → ShowV C H (.ref x)
theorem ShowV.keep {C : Addr} {H H' : Hp} {v : V} (h : ShowV C H v) (s : Same H H') : ShowV C H' v := by
  cases h with
  | non => exact .non
  | str z => exact .str z
  | his w => exact .his (w.keep s)
def spBrk (c : Nat → Addr) : Sp := fun vs H Q E => ∃ (r k g : V) (a : Addr) (dr dk dg : PyData), vs = [r, k, g] ∧ Dx a H r dr ∧ Dx a H k dk ∧ Dx a H g dg ∧ brkBad dr dk dg ≠ none ∧
  ∀ i, brkBad dr dk dg = some i → ∀ v, [r, k, g][i]? = some v → ∀ dd H', Same H H' → H' dd = none → E (.ref (c i)) (some dd) (upd H' dd (.xd [("value", v)]))
def spShows (c : Nat → Addr) (C : Addr) : Sp := fun vs H Q E => ∃ (r k g v : V) (a : Addr) (dr dk dg : PyData), vs = [r, k, g, v] ∧ Dx a H r dr ∧ Dx a H k dk ∧ Dx a H g dg ∧ ShowV C H v ∧ (brkBad dr dk dg = none → ∀ v H', Same H H' → Q v H') ∧
  ∀ i, brkBad dr dk dg = some i → ∀ v, [r, k, g][i]? = some v → ∀ dd H', Same H H' → H' dd = none → E (.ref (c i)) (some dd) (upd H' dd (.xd [("value", v)]))
def spBreaks (C : Addr) : Sp := fun vs H Q _ => ∃ (z y : Str) (g : Int) (x : Addr), vs = [.str z, .str y, .int g, .ref x] ∧ z ∈ rulesL ∧ HistO C H x [.come sA []] ∧ ∀ v H', Same H H' → Q v H'
theorem brk_none {dr dk dg : PyData} (h : brkBad dr dk dg = none) : ∃ z y g, dr = .str z ∧ z ∈ rulesL ∧ dk = .str y ∧ y ∈ breaksL ∧ dg = .int g := by
  unfold brkBad at h
  by_cases h1 : isRuleD dr = true
  · rw [h1] at h
    by_cases h2 : isKindD dk = true
    · rw [h2] at h
      by_cases h3 : goalD dk dg = true
      · cases dr with
        | str z =>
          cases dk with
          | str y =>
            cases dg with
            | int g => exact ⟨z, y, g, rfl, of_decide_eq_true h1, rfl, of_decide_eq_true h2, rfl⟩
            | _ => rw [goal_str] at h3; split at h3 <;> cases h3
          | _ => cases h2
        | _ => cases h1
      · rw [Bool.not_eq_true] at h3
        rw [h3] at h
        cases h
    · rw [Bool.not_eq_true] at h2
      rw [h2] at h
      cases h
  · rw [Bool.not_eq_true] at h1
    rw [h1] at h
    cases h
section
variable {P : Program} {w : World} {K : PySem.W.Frag} {mg : Str → Option Value} {base : Heap}
theorem scBrk : FnScope ["rule", "kind", "goal"] ["rule", "kind", "goal"] (defScope sBrk) := ⟨rfl, rfl, rfl, by decide +kernel, rfl, by decide +kernel, by decide +kernel⟩
theorem ok_brk {f fC : Addr} {c : Nat → Addr} {fd fdC : FuncData} {k : Nat} (F : Fun K "breaker" "breaker" sBrk f fd)
    (GC : FnOk P w K mg base (L2N.CX P w) k fC fdC ["rule", "kind", "goal"] (spChkB c)) (gC : mg "check_break" = some (.ref fC)) (kC : PySem.W.keepIn K (.ref fC) = true) (bC : Binds K fdC ["rule", "kind", "goal"] []) :
    FnOk P w K mg base (L2N.CX P w) (k + 1) f fd ["rule", "kind", "goal"] (spBrk c) := by
  refine okN F scBrk (fun vs H Q E h => ?_) (fun cdv A outer s H vs Q E hr h => ?_)
  · obtain ⟨r, k', g, a, dr, dk, dg, rfl, _⟩ := h
    rfl
  · obtain ⟨r, kd, g, a, dr, dk, dg, rfl, hdr, hdk, hdg, ne, q2⟩ := h
    refine ⟨_, pss_cons (ps_expr (pe_call GC hr (by rfl) gC kC bC .nil passN (pa_cons (pv 0) (pa_cons (pv 1) (pa_cons (pv 2) pa_nil))))) pss_never, ?_⟩
    refine rs_expr ?_
    exact ⟨r, rfl, kd, rfl, g, rfl, r, kd, g, a, dr, dk, dg, rfl, hdr, hdk, hdg, fun e => absurd e ne, q2⟩
theorem scShows : FnScope ["rule", "kind", "goal", "value"] ["rule", "kind", "goal", "value"] (defScope sShows) := ⟨rfl, rfl, rfl, by decide +kernel, rfl, by decide +kernel, by decide +kernel⟩
theorem ok_shows {f fC fB C aN : Addr} {c : Nat → Addr} {fd fdC fdB : FuncData} {k : Nat} (F : Fun K "shows_breaker" "shows_breaker" sShows f fd) (bi : mg "isinstance" = none) (gN : mg "NEVER" = some (.ref aN)) (hN : ∀ z ∈ rulesL, ∃ (t : Addr) (xs : List Str), KDct K w aN z (.ref t) ∧ ∀ H, SqT K H t (xs.map V.str))
    (T : TxtH K mg C) (Cq : ClsQ K mg C) (GC : FnOk P w K mg base (L2N.CX P w) k fC fdC ["rule", "kind", "goal"] (spChkB c)) (gC : mg "check_break" = some (.ref fC)) (kC : PySem.W.keepIn K (.ref fC) = true) (bC : Binds K fdC ["rule", "kind", "goal"] [])
    (GB : FnOk P w K mg base CX0 k fB fdB ["rule", "kind", "goal", "history"] (spBreaks C)) (gB : mg "breaks" = some (.ref fB)) (kB : PySem.W.keepIn K (.ref fB) = true) (bB : Binds K fdB ["rule", "kind", "goal", "history"] []) :
    FnOk P w K mg base (L2N.CX P w) (k + 1) f fd ["rule", "kind", "goal", "value"] (spShows c C) := by
  refine okN F scShows (fun vs H Q E h => ?_) (fun cdv A outer s H vs Q E hr h => ?_)
  · obtain ⟨r, k', g, v, a, dr, dk, dg, rfl, _⟩ := h
    rfl
  · obtain ⟨r, kd, g, v, a, dr, dk, dg, rfl, hdr, hdk, hdg, hv, q1, q2⟩ := h
    refine ⟨_, pss_cons (ps_expr (pe_call GC hr (by rfl) gC kC bC .nil passN (pa_cons (pv 0) (pa_cons (pv 1) (pa_cons (pv 2) pa_nil)))))
      (pss_cons (ps_if (pt_cmpR op_in_seq (pv 1) (pe_ix ix_kdict (pe_glob (v := .ref aN) rfl gN rfl) (pv 0) (fun _ _ => rfl)) (by rfl)) (pss_one (ps_ret (pe_cmpR op_isN (pv 3) pe_non (nomark _)))) pss_nil)
      (pss_one (ps_ret (pe_and (pe_callB call_isi (by rfl) bi PyProof.Rows.boot_isinstance (pa_cons (pv 3) (pa_cons (pe_glob (v := .ref C) (by rfl) T.mH rfl) pa_nil)))
        (pe_one (pe_call GB hr (by rfl) gB kB bB .nil pass0 (pa_cons (pv 0) (pa_cons (pv 1) (pa_cons (pv 2) (pa_cons (pv 3) pa_nil)))))))))), ?_⟩
    refine rs_expr ?_
    refine ⟨r, rfl, kd, rfl, g, rfl, r, kd, g, a, dr, dk, dg, rfl, hdr, hdk, hdg, fun e H1 s1 => ?_, q2⟩
    obtain ⟨z, y, gi, rfl, hz, rfl, hy, rfl⟩ := brk_none e
    obtain rfl := hdr.str
    obtain rfl := hdk.str
    obtain rfl := hdg.int
    obtain ⟨t, xs, hk, ht⟩ := hN z hz
    have hv1 := hv.keep s1
    refine rs_ifR ?_
    refine ⟨.str y, rfl, .str z, rfl, aN, z, .ref t, rfl, rfl, hk, t, xs.map V.str, rfl, .inr (ht _), rfl, all_flat_strs _, _, rfl, ?_⟩
    rw [if_neg Bool.false_ne_true]
    by_cases hi : inV (V.str y) (xs.map V.str) = true
    · rw [hi]
      show if true = true then _ else _
      rw [if_pos rfl]
      exact ⟨v, rfl, rfl, q1 e _ _ s1⟩
    · rw [Bool.not_eq_true] at hi
      rw [hi]
      show if false = true then _ else _
      rw [if_neg Bool.false_ne_true]
      cases hv1 with
      | non => exact ⟨.non, rfl, .non, .ref C, .type "NoneType", .ref C, false, rfl, .own _, .base .non, Cq.kN, false, rfl, q1 e _ _ s1⟩
      | str z2 => exact ⟨.str z2, rfl, .str z2, .ref C, .type "str", .ref C, false, rfl, .own _, .base (.str z2), Cq.kS, false, rfl, q1 e _ _ s1⟩
      | @his x wb =>
        obtain ⟨⟨dx, dp, lp, ep, fs, h1, h2, h3, h4, h5, h6, h7, h8, h9⟩, hH, hl⟩ := id wb
        refine ⟨.ref x, rfl, .ref x, .ref C, .ref C, .ref C, true, rfl, .own _, .base (.ins h1 T.cl Cq.ha Cq.hn Cq.htk Cq.hm), kit_same, true, rfl, ?_⟩
        exact ⟨.str z, rfl, .str y, rfl, .int gi, rfl, .ref x, rfl, z, y, gi, x, rfl, hz, wb, fun v H2 s2 => q1 e v H2 (s1.trans s2)⟩
end
end Hw

set_option Elab.async false
set_option linter.all false
set_option maxRecDepth 100000
set_option maxHeartbeats 2000000
namespace Hw
open PySem PySem.Spec PyProof.Rows L2
/-! sets of texts: which texts are in, as a list -/
theorem paired_perm {α β : Type} {F : α → β → Prop} {ys ys' : List β} (p : ys'.Perm ys) : ∀ {xs : List α}, Paired F xs ys → ∃ xs', xs'.Perm xs ∧ Paired F xs' ys' := by
  induction p with
  | nil => intro xs h; exact ⟨xs, .refl _, h⟩
  | cons y _ ih =>
    intro xs h
    cases h with
    | cons a t =>
      obtain ⟨xs', h1, h2⟩ := ih t
      exact ⟨_ :: xs', h1.cons _, .cons a h2⟩
  | swap a b l =>
    intro xs h
    cases h with
    | cons u t =>
      cases t with
      | cons v t => exact ⟨_ :: _ :: _, .swap _ _ _, .cons v (.cons u t)⟩
  | trans _ _ ih1 ih2 =>
    intro xs h
    obtain ⟨x1, a1, b1⟩ := ih2 h
    obtain ⟨x2, a2, b2⟩ := ih1 b1
    exact ⟨x2, a2.trans a1, b2⟩
/-- an entry of such a set -/
def TxE (w : World) (z : Str) (e : Int × Value) : Prop := ∃ t, e = (hashStr w z, Value.str z t)
/-- the set at a: L its texts, each once -/
structure TxSet (w : World) (h : Heap) (a : Addr) (L : List Str) : Prop where
  ex : ∃ o es ep t, h.get? a = some o ∧ o.ExactSet ∧ o.data = .set es ep t ∧ Paired (TxE w) L es.toList ∧ t.fits es.size = true ∧ Ris t.place.toList ∧ (w.params.followText "set-order" = true ∨ t.led = true)
  once : L.Nodup
  few : L.length < scanBound
theorem TxSet.same {w : World} {h h' : Heap} {a : Addr} {L : List Str} (x : TxSet w h a L) (k : ∀ o, h.get? a = some o → h'.get? a = some o) : TxSet w h' a L := by
  obtain ⟨⟨o, es, ep, t, e, r⟩, b, c⟩ := x
  exact ⟨⟨o, es, ep, t, k o e, r⟩, b, c⟩
theorem txSet_elems {P : Program} {w : World} : ∀ {L : List Str} {l : List (Int × Value)}, Paired (TxE w) L l → ElemsOf (PySem.strKind P w) l
  | _, _, .nil => fun _ z => nomatch z
  | _, _, .cons ⟨t, e⟩ r => fun x hx => by
    rcases List.mem_cons.mp hx with rfl | hx
    · subst e
      exact ⟨⟨_, strKind_is _ _ _ _, rfl⟩, rfl⟩
    · exact txSet_elems (P := P) r x hx
theorem isStr_iff {w : World} {P : Program} {z y : Str} {e : Int × Value} (h : TxE w y e) : (PySem.strKind P w).is z e.2 = true ↔ y = z := by
  obtain ⟨t, rfl⟩ := h
  constructor
  · intro q
    exact (PySem.strKind P w).inj _ _ _ (strKind_is _ _ y t) q
  · rintro rfl
    exact strKind_is _ _ _ _
theorem paired_of_mem {α β : Type} {F : α → β → Prop} : ∀ {xs : List α} {ys : List β}, Paired F xs ys → ∀ y ∈ ys, ∃ x ∈ xs, F x y
  | _, _, .nil, _, z => nomatch z
  | _, _, .cons a t, y, hy => by
    rcases List.mem_cons.mp hy with rfl | hy
    · exact ⟨_, List.mem_cons_self, a⟩
    · obtain ⟨x, h1, h2⟩ := paired_of_mem t y hy
      exact ⟨x, List.mem_cons_of_mem _ h1, h2⟩
theorem paired_of_memL {α β : Type} {F : α → β → Prop} : ∀ {xs : List α} {ys : List β}, Paired F xs ys → ∀ x ∈ xs, ∃ y ∈ ys, F x y
  | _, _, .nil, _, z => nomatch z
  | _, _, .cons a t, x, hx => by
    rcases List.mem_cons.mp hx with rfl | hx
    · exact ⟨_, List.mem_cons_self, a⟩
    · obtain ⟨y, h1, h2⟩ := paired_of_memL t x hx
      exact ⟨y, List.mem_cons_of_mem _ h1, h2⟩
section
variable {P : Program} {w : World} {A : Around} {E : Value → Shared → Prop} {s : Shared} {a : Addr} {L : List Str}
theorem tx_len {es : Array (Int × Value)} (h : Paired (TxE w) L es.toList) : es.size = L.length := by rw [← Array.length_toList]; exact (Paired.length h).symm
/-- the last steps of an add: the rows are stored, and laid anew where they have grown too many -/
theorem tx_store {act : Bool → Sem Unit} (ha : ∀ (b : Bool) (s1 : Shared) (R : Unit → Shared → Prop), R () s1 → wpAny (model P w) A (act b) R E s1) {o : Obj} {es0 : Array (Int × Value)} {ep : Nat} {t0 : SetTable} (ho : s.heap.get? a = some o) (hex : o.ExactSet) (hd : o.data = .set es0 ep t0)
    {es : Array (Int × Value)} {t : SetTable} (hp : Paired (TxE w) L es.toList) (hn : L.Nodup) (hb : L.length < scanBound) (hf : t.fits es.size = true) (hr : Ris t.place.toList) (hl : w.params.followText "set-order" = true ∨ t.led = true) {dm : Bool} {R : Option Bool → Shared → Prop}
    (h : ∀ h' L', Heap.SameBut a s.heap h' → L'.Perm L → TxSet w h' a L' → R (some true) { s with heap := h' }) :
    wpAny (model P w) A (do
        storeSet a es t
        if (!dm && t.tooFull) = true then do
            act (relayAll t es (SetTable.grown es.size)).2.2
            storeSet a (relayAll t es (SetTable.grown es.size)).1 (relayAll t es (SetTable.grown es.size)).2.1
            pure (some true)
          else pure (some true)) R E s := by
  have hz : es.size < scanBound := by rw [tx_len hp]; exact hb
  refine wpAny_bind (wpAny_storeSet_of ho hd ?_ (fits_of_scanBound hz))
  have at1 : (s.heap.update a (Obj.putSet es t)).get? a = some { o with data := .set es (ep + 1) t } := by
    have q := Heap.get?_update_self (Obj.putSet es t) ho (by rw [putSet_of es t hd]; rfl)
    rwa [putSet_of es t hd] at q
  have sb := Heap.SameBut.update s.heap a (Obj.putSet es t)
  split
  · have p2 := relayAll_perm t es (SetTable.grown es.size)
    have f2 := relayAll_fits t es (SetTable.grown es.size)
    have r2 := relayAll_ris t es (SetTable.grown es.size)
    have l2 := relayAll_led t es (SetTable.grown es.size)
    revert p2 f2 r2 l2
    generalize relayAll t es (SetTable.grown es.size) = Y
    obtain ⟨es2, t2, gv⟩ := Y
    intro p2 f2 r2 l2
    obtain ⟨L2, q1, q2⟩ := paired_perm p2 hp
    have hb2 : L2.length < scanBound := by rw [q1.length_eq]; exact hb
    have hz2 : es2.size < scanBound := by rw [tx_len q2]; exact hb2
    refine wpAny_bind (ha _ _ _ (wpAny_bind (wpAny_storeSet_of at1 rfl ?_ (fits_of_scanBound hz2))))
    have at2 : ((s.heap.update a (Obj.putSet es t)).update a (Obj.putSet es2 t2)).get? a = some { o with data := .set es2 (ep + 1 + 1) t2 } := Heap.get?_update_self (Obj.putSet es2 t2) at1 rfl
    refine wpAny_pure (h _ L2 (sb.trans (Heap.SameBut.update _ a _)) q1 ⟨⟨_, es2, _, t2, at2, hex, rfl, q2, f2, r2, ?_⟩, q1.nodup_iff.mpr hn, hb2⟩)
    exact hl.imp id fun z => l2.trans z
  · exact wpAny_pure (h _ L sb (.refl _) ⟨⟨_, es, _, t, at1, hex, rfl, hp, hf, hr, hl⟩, hn, hb⟩)
/-- a text is put into the set -/
theorem tx_add {z : Str} {tk : Tok} {Q : Bool → Shared → Prop} (x : TxSet w s.heap a L) (room : L.length + 1 < scanBound)
    (h : ∀ (b : Bool) h' L', Heap.SameBut a s.heap h' → L'.Perm (if z ∈ L then L else z :: L) → TxSet w h' a L' → Q b { s with heap := h' }) :
    wpAny (model P w) A (setAddHashed a (.str z tk) ((PySem.strKind P w).hash z)) Q E s := by
  obtain ⟨⟨o, es, ep, t, ho, hex, hd, hp, hf, hr, hl⟩, hn, hb⟩ := x
  have kz : (PySem.strKind P w).is z (.str z tk) = true := strKind_is _ _ _ _
  have el := txSet_elems (P := P) hp
  have hz : es.size < scanBound := by rw [tx_len hp]; exact hb
  unfold setAddHashed setAddHashedIn
  refine wpAny_holding (wpAny_bind (wpAny_setState_of ho hd hf ?_))
  dsimp only
  rw [byScan_of (x := .str z tk) rfl hz el]
  simp only [↓reduceIte]
  unfold setAddByScan
  refine wpAny_bind (wpAny_bind (wpAny_rule (wpAny_bind (wpAny_setScan_of kz ho hd hf el ?_))))
  cases hi : List.findIdx? (fun e => (PySem.strKind P w).is z e.2) es.toList with
  | some j =>
    dsimp only
    obtain ⟨hj, pj, _⟩ := List.findIdx?_eq_some_iff_getElem.mp hi
    obtain ⟨y, hy, ey⟩ := paired_of_mem hp _ (List.getElem_mem hj)
    have hzm : z ∈ L := by rw [← (isStr_iff ey).mp pj]; exact hy
    have q := h false s.heap L (Heap.SameBut.refl a s.heap) (by rw [if_pos hzm]) ⟨⟨o, es, ep, t, ho, hex, hd, hp, hf, hr, hl⟩, hn, hb⟩
    exact wpAny_pure (wpAny_pure q)
  | none =>
    dsimp only
    have hzn : z ∉ L := fun m => by
      obtain ⟨e, he, ee⟩ := paired_of_memL hp z m
      have c := List.findIdx?_eq_none_iff.mp hi e he
      rw [(isStr_iff ee).mpr rfl] at c
      cases c
    have gw : ∀ (b : Bool) {s1 : Shared} {R : Unit → Shared → Prop}, R () s1 → wpAny (model P w) A (match b with | true => rule "set.scan.the-table-gave-way" | false => pure ()) R E s1 := fun b s1 R q => by
      cases b
      · exact wpAny_pure q
      · exact wpAny_rule q
    have p1 := layNew_perm t es ((PySem.strKind P w).hash z) (.str z tk)
    have f1 := layNew_fits t es ((PySem.strKind P w).hash z) (.str z tk)
    have r1 := layNew_ris t es ((PySem.strKind P w).hash z) (.str z tk) hr
    have l1 := layNew_led t es ((PySem.strKind P w).hash z) (.str z tk)
    revert p1 f1 r1 l1
    generalize layNew t es ((PySem.strKind P w).hash z) (.str z tk) = Y
    obtain ⟨es1, t1, wd, gv⟩ := Y
    intro p1 f1 r1 l1
    rw [Array.toList_push] at p1
    have p2 : es1.toList.Perm (((PySem.strKind P w).hash z, Value.str z tk) :: es.toList) := p1.trans (List.perm_append_singleton _ _)
    obtain ⟨L1, q1, q2⟩ := paired_perm p2 (.cons (F := TxE w) ⟨tk, rfl⟩ hp)
    have n1 : L1.Nodup := q1.nodup_iff.mpr (List.nodup_cons.mpr ⟨hzn, hn⟩)
    have b1 : L1.length < scanBound := by rw [q1.length_eq]; exact room
    have d1 : w.params.followText "set-order" = true ∨ t1.led = true := hl.imp id fun e => l1.trans e
    have fin : ∀ h' L', Heap.SameBut a s.heap h' → L'.Perm L1 → TxSet w h' a L' → Q true { s with heap := h' } := fun h' L' sb pm y => h true h' L' sb (by rw [if_neg hzn]; exact pm.trans q1) y
    refine wpAny_bind (gw _ ?_)
    split
    · refine wpAny_bind ?_
      rw [hashByValue_scannable 8 (x := .str z tk) rfl]
      refine wpAny_pure (tx_store (fun b s1 R q => gw b q) ho hex hd q2 n1 b1 ?_ ?_ ?_ fun h' L' sb pm y => ?_)
      · first | (split <;> first | exact f1 | exact SetTable.fits_plain_off f1) | exact f1
      · first | (split <;> exact r1) | exact r1
      · first | (split <;> exact d1) | exact d1
      · exact wpAny_pure (fin h' L' sb pm y)
    · refine wpAny_bind (wpAny_pure ?_)
      simp only [↓reduceIte]
      exact tx_store (fun b s1 R q => gw b q) ho hex hd q2 n1 b1 f1 r1 d1 fun h' L' sb pm y => wpAny_pure (fin h' L' sb pm y)
/-- found.add(z) -/
theorem tx_setadd {z : Str} {tk : Tok} {Q : Value → Shared → Prop} (x : TxSet w s.heap a L) (room : L.length + 1 < scanBound)
    (h : ∀ h' L', Heap.SameBut a s.heap h' → L'.Perm (if z ∈ L then L else z :: L) → TxSet w h' a L' → Q .none { s with heap := h', toks := s.toks + 1 }) :
    wpAny (model P w) A (call (.builtin "set.add") [.ref a, .str z tk]) Q E s := by
  have tys : s.TypeIs (.ref a) "set" := by
    obtain ⟨⟨o, _, _, _, ho, hex, _⟩, _⟩ := x
    exact ⟨o, ho, hex.1⟩
  refine wpAny_call_entry F.slot_set_add tys F.entry_set_add ?_ (F.args_set_add_2 _ _)
  unfold Builtin.«set.add» Builtin.Frozenset.oneOther
  simp only [List.isEmpty_nil, bind_assoc]
  unfold Builtin.Frozenset.addrOf setAdd
  refine wpAny_bind (wpAny_pure ?_)
  try dsimp only
  refine wpAny_bind (wpAny_pure ?_)
  try dsimp only
  refine wpAny_bind (wpAny_holding (wpAny_bind ((PySem.strKind P w).pyHash (k := z) (strKind_is _ _ _ _) ?_)))
  refine tx_add (s := { s with toks := s.toks + 1 }) x room fun b h' L' sb pm y => ?_
  show wpAny _ _ (ret Value.none) _ _ _
  exact wpAny_pure ⟨_, rfl, h h' L' sb pm y⟩
theorem tx_fresh {h : Heap} (w : World) : TxSet w (h.push { cls := .type "set", dict := none, data := .set #[] 0 (.fresh 0 0 (!w.params.followText "set-order")) }) h.objs.size [] :=
  ⟨⟨_, #[], 0, _, Heap.get?_push_size _ rfl, ⟨rfl, rfl, rfl⟩, rfl, .nil, by rfl, .nil, by
    show _ ∨ (!w.params.followText "set-order") = true
    cases w.params.followText "set-order"
    · exact .inr rfl
    · exact .inl rfl⟩, .nil, by decide⟩
end
end Hw

set_option Elab.async false
set_option linter.all false
set_option maxRecDepth 100000
set_option maxHeartbeats 2000000
namespace Hw
open PySem PySem.Spec PyProof.Rows L2
/-- the set of the texts L stands at a -/
def TxO (w : World) (a : Addr) (L : List Str) : HO := .ext fun h => TxSet w h a L
theorem txO_ok {w : World} {P : Program} {H : Hp} {h : Heap} {a : Addr} {L : List Str} (x : TxSet w h a L) : ObjOk P w H h a (TxO w a L) := by
  have ⟨⟨o, _, _, _, ho, _⟩, _, _⟩ := x
  exact ⟨x, ⟨o, ho⟩, fun h1 h2 y k => TxSet.same y k⟩
section
variable {X : Cx}
theorem txO_at {pins : List (Addr × Obj)} {σ : L2.St} {H : Hp} {s : Shared} {a : Addr} {L : List Str} (I : Inv X pins σ H s) (ha : H a = some (TxO X.w a L)) : TxSet X.w s.heap a L := (I.hok a _ ha).1
theorem txO_add {pins : List (Addr × Obj)} {σ : L2.St} {H : Hp} {s : Shared} {E : Value → Shared → Prop} {D : Addr} {L : List Str} {z : Str} {tk : Tok} {Q : Value → Shared → Prop} (I : Inv X pins σ H s) (hD : H D = some (TxO X.w D L)) (room : L.length + 1 < scanBound)
    (h : ∀ s' L', L'.Perm (if z ∈ L then L else z :: L) → Inv X pins σ (upd H D (TxO X.w D L')) s' → Q .none s') : wpAny (model X.prog X.w) X.A (call (.builtin "set.add") [.ref D, .str z tk]) Q E s := by
  refine tx_setadd (txO_at I hD) room fun h' L' sb pm y => ?_
  have ex : ∃ u, h'.get? D = some u := by
    have ⟨⟨o, _, _, _, ho, _⟩, _, _⟩ := y
    exact ⟨o, ho⟩
  exact h _ L' pm (I.write (e := D) (t' := s.toks + 1) (by rw [hD]; trivial) (.inl rfl) (fun b u hb hu => (sb.2 b hb).trans hu) ex (txO_ok y))
/-- {elt for target in iter if ..}, elt a text -/
def tScT (w : World) (wi : TI) (g : TG) (tt : TT) (te : TE) (vs : List Nat) : TE := fun σ H Q => wi σ H fun J H1 => ∀ D, H1 D = none → ∃ W : Nat → Nat → Hp → Prop, (∃ m, W 0 m (upd H1 D (TxO w D []))) ∧ ∀ i m H, W i m H →
  (J.stop i H ∧ Q (.ref D) H) ∨ (J.go i H ∧ ∃ Nx : Hp → Prop, (∀ H', Nx H' → ∃ m', m' < m ∧ W (i + 1) m' H') ∧ ∀ x H', J.yld i H x H' → g x (wipe σ vs) H' fun σ2 H2 => wipe σ2 vs = wipe σ vs ∧ tt σ2 H2 fun b H3 =>
    if b = true then te σ2 H3 fun y H4 => ∃ (z : Str) (L : List Str), y = .str z ∧ H4 D = some (TxO w D L) ∧ L.length + 1 < scanBound ∧ ∀ L', L'.Perm (if z ∈ L then L else z :: L) → Nx (upd H4 D (TxO w D L')) else Nx H3)
theorem pe_scT {elt tg iter : Expr} {ifs : List Expr} {scope : Scope} {own : List (PySem.Str × Nat)} {pos : Pos} {wi : TI} {g : TG} {tt : TT} {te : TE} (hc : X.calm = true) (hN : X.N.Nodup) (hi : PI X tg iter wi) (ok : BlkOk X.N X.env.scope scope own)
    (hg : ∀ (s : Shared) (H : Hp) (C : Addr) (cl : List (PySem.Str × Addr)) (fp : List Addr), PG (X.blk s H scope (compEnvC scope cl C X.env) fp) tg g) (ht : ∀ (s : Shared) (H : Hp) (C : Addr) (cl : List (PySem.Str × Addr)) (fp : List Addr), PTs (X.blk s H scope (compEnvC scope cl C X.env) fp) ifs tt)
    (he : ∀ (s : Shared) (H : Hp) (C : Addr) (cl : List (PySem.Str × Addr)) (fp : List Addr), PE (X.blk s H scope (compEnvC scope cl C X.env) fp) elt te) (hs : ∀ x, foldedSetIterable iter X.env x = pure x := by intro _; rfl) :
    PE X (.SetComp elt [⟨tg, iter, ifs, 0⟩] scope pos) (tScT X.w wi g tt te (own.map (·.2))) := by
  refine ⟨fun pins s σ H Q I h => ?_⟩
  rw [PpSet.eval_SetComp]
  have free : ∀ y ∈ scope.names, y.2 = .free → ∃ c, X.env.cells.lookup y.1 = some c := fun y hy e => (ok.free y hy e).elim (fun k => I.ok.has _ (.inl k)) fun k => I.ok.has _ (.inr k)
  refine wpAny_comprehension_free (use := none) rfl hs (closure_ok free) ok.kind (fun y hy e => by rw [ok.uniq y hy, e]) (thn (hi.run pins s σ H _ I h) fun xv s1 hx => thn hx fun itv s2 h2 => ?_)
  obtain ⟨it, fp, tn, J, H2, e, I2, T, st2, f2, q⟩ := h2
  subst e
  refine PpSet.newSet_ok (newEnv_comp ?_)
  obtain ⟨D, hD⟩ : ∃ D, s2.heap.objs.size = D := ⟨_, rfl⟩
  rw [hD]
  have nD : H2 D = none := I2.hok.fresh (Nat.le_of_eq hD)
  obtain ⟨W, ⟨m0, w0⟩, turn⟩ := q D nD
  obtain ⟨s3, hs3⟩ : ∃ s3 : Shared, { s2 with heap := s2.heap.push { cls := .type "set", dict := none, data := .set #[] 0 (.fresh 0 0 (!X.w.params.followText "set-order")) } } = s3 := ⟨_, rfl⟩
  rw [hs3]
  have heap3 : s3.heap = s2.heap.push { cls := .type "set", dict := none, data := .set #[] 0 (.fresh 0 0 (!X.w.params.followText "set-order")) } := by rw [← hs3]
  have I3 : Inv X pins σ (upd H2 D (TxO X.w D [])) s3 := by
    rw [← hs3, ← hD]
    exact I2.laid (t' := s2.toks) (fun b o e => Heap.get?_push_of_some _ e) (Nat.le_refl _) (txO_ok (tx_fresh X.w))
  have keep3 : ∀ b o, s2.heap.get? b = some o → s3.heap.get? b = some o := fun b o e => by rw [heap3]; exact Heap.get?_push_of_some _ e
  have below : ∀ b ∈ fp, b < s2.heap.objs.size := fun b hb => let ⟨_, e, _⟩ := T.obj _ _ st2 b hb; Heap.lt_size e
  have f3 : ∀ b ∈ fp, FpOk X pins (upd H2 D (TxO X.w D [])) b ∧ b < s3.heap.objs.size := fun b hb => by
    have lt := below b hb
    exact ⟨⟨by rw [upd_ne (by rw [← hD]; exact Nat.ne_of_lt lt)]; exact (f2 b hb).1, (f2 b hb).2⟩, by rw [heap3, Heap.size_push]; exact Nat.lt_succ_of_lt lt⟩
  have st3 : tn 0 s3.heap := T.keep _ _ _ st2 fun b _ o e => keep3 b o e
  have I4 := block_start I3 ok hN f3
  obtain ⟨H3, hH3⟩ : ∃ H3, upd H2 D (TxO X.w D []) = H3 := ⟨_, rfl⟩
  rw [hH3] at I3 I4 w0 f3
  obtain ⟨ce, hce⟩ : ∃ ce, compEnvC scope (cellsFrom (s3.heap.objs.size + 1) scope.names (cloFrom X.env.cells scope.names [])) s3.heap.objs.size X.env = ce := ⟨_, rfl⟩
  have pg := hg s3 H3 s3.heap.objs.size (cellsFrom (s3.heap.objs.size + 1) scope.names (cloFrom X.env.cells scope.names [])) fp
  have pt := ht s3 H3 s3.heap.objs.size (cellsFrom (s3.heap.objs.size + 1) scope.names (cloFrom X.env.cells scope.names [])) fp
  have pe := he s3 H3 s3.heap.objs.size (cellsFrom (s3.heap.objs.size + 1) scope.names (cloFrom X.env.cells scope.names [])) fp
  obtain ⟨s4, hs4⟩ : ∃ s4 : Shared, { s3 with heap := pushCells (s3.heap.push { cls := .type "dict", data := .dict #[] }) scope.names } = s4 := ⟨_, rfl⟩
  rw [hce] at I4 pg pt pe
  have I4' : Inv (X.blk s3 H3 scope ce fp) [] (wipe σ (own.map (·.2))) H3 s4 := by rw [← hs4]; exact I4
  have st4 : tn 0 s4.heap := T.keep _ _ _ st3 fun b _ o e => by rw [← hs4]; exact pushCells_keeps _ _ _ _ (Heap.get?_push_of_some _ e)
  have cl : ce.locals = s3.heap.objs.size := by rw [← hce]; rfl
  have still : ∀ {σ' : L2.St} {H' : Hp} {s' : Shared}, Inv (X.blk s3 H3 scope ce fp) [] σ' H' s' → (∀ b ∈ fp, H' b = none) → ∀ b ∈ fp, FpOk (X.blk s3 H3 scope ce fp) [] H' b := fun {σ' H' s'} I' hn b hb =>
    ⟨hn b hb, (I'.ok.exf b hb).1, I'.ok.exfs b hb, .inl hb, fun x c e => (I'.ok.exf b hb).2 x c e, fun p hp => absurd (show p ∈ ([] : List (Addr × Obj)) ++ [] from hp) (by simp)⟩
  have all : codeAny (model X.prog X.w) X.A (.compLoop (.SetComp elt [⟨tg, iter, ifs, 0⟩] scope pos) 0 (.ref it) (.ref D) ce) (compPost (model X.prog X.w) X.A X.xe none (EP X pins σ Q) (.ref D) s3.heap.objs.size) s4 := by
    refine PpSet.compLoopS_any (fun n s' => ∃ i H', Inv (X.blk s3 H3 scope ce fp) [] (wipe σ (own.map (·.2))) H' s' ∧ tn i s'.heap ∧ (∀ b ∈ fp, H' b = none) ∧ W i n H') ?_ m0 ⟨0, H3, I4', st4, fun b hb => (f3 b hb).1.1, w0⟩
    rintro n s5 ⟨i, H5, I5, st5, n5, w5⟩
    rcases turn i n H5 w5 with ⟨stop, qq⟩ | ⟨go, Nx, hNx, step⟩
    · refine thnF (T.done (X.blk s3 H3 scope ce fp) rfl rfl rfl hc i [] s5 _ H5 (fun _ _ => False) I5 (still I5 n5) st5 stop) fun r s6 ⟨hr, I6⟩ => ?_
      subst hr
      have I7 : Inv X pins σ H5 s6 := I3.call' (ch := fp) I6.os I6.base I6.hok I6.bare fun b hb => ⟨(f3 b hb).1.2.2.2.1, (f3 b hb).1.2.1, (f3 b hb).1.2.2.2.2.1, (f3 b hb).1.2.2.2.2.2⟩
      have nC : H5 s3.heap.objs.size = none := by
        have y : H5 ce.locals = none := I6.free
        rwa [cl] at y
      obtain ⟨m, hn, _⟩ := I6.loc
      have hn : s6.heap.Ns ce.locals m := hn
      rw [cl] at hn
      obtain ⟨f0, f1, _, f3', f4, f5⟩ := I3.fpOk (Nat.le_refl _) nC
      exact ⟨m, hn, fun h2 sb => ⟨.ref D, H5, I7.turned (t' := s6.toks) (fun b o hb e => (sb.2 b hb).trans e) f0 f1 f3' f4 f5, rfl, qq⟩⟩
    · refine thnF (T.item (X.blk s3 H3 scope ce fp) rfl rfl rfl hc i [] s5 _ H5 (fun _ _ => False) I5 (still I5 n5) st5 go) fun r s6 ⟨u, hr, h6⟩ => ?_
      subst hr
      refine thnF h6 fun _ s7 ⟨x, H7, I7, r7, y7, st7, n7⟩ => ?_
      have I8 := I7.pinned (still I7 n7) (T.obj _ _ st7)
      refine thnF (pg.run _ s7 _ H7 x u _ I8 r7 (step x H7 y7)) fun _ s8 ⟨σ8, H8, I9, hw8, q8⟩ => ?_
      refine thnF (pt.run _ s8 σ8 H8 _ I9 q8) fun b s9 ⟨H9, I10, q9⟩ => ?_
      have back : ∀ {s' : Shared} {H' : Hp}, Inv (X.blk s3 H3 scope ce fp) ([] ++ pinsAt fp s7.heap) σ8 H' s' → Nx H' → ∃ m, m < n ∧ ∃ i H', Inv (X.blk s3 H3 scope ce fp) [] (wipe σ (own.map (·.2))) H' s' ∧ tn i s'.heap ∧ (∀ b ∈ fp, H' b = none) ∧ W i m H' := fun {s' H'} I' nx => by
        obtain ⟨m', lt, w'⟩ := hNx H' nx
        have pin : ∀ b ∈ fp, ∀ o, s7.heap.get? b = some o → s'.heap.get? b = some o ∧ H' b = none := fun b hb o e => by
          have y := I'.pin (b, o) (List.mem_append_right _ (List.mem_append_right _ (mem_pinsAt hb e)))
          exact ⟨y.1, y.2.1⟩
        have len : (wipe σ (own.map (·.2))).length = σ8.length := by rw [← hw8, wipe_length]
        refine ⟨m', lt, i + 1, H', (I'.unpinned (pins := [])).weak len (fun j v e => ?_), T.keep _ _ _ st7 fun b hb o e => (pin b hb o e).1, fun b hb => ?_, w'⟩
        · rw [← hw8] at e
          exact (wipe_some e).1
        · obtain ⟨o, e, _⟩ := T.obj _ _ st7 b hb
          exact (pin b hb o e).2
      cases b with
      | false =>
        simp only [Bool.false_eq_true, if_false] at q9 ⊢
        exact back I10 q9
      | true =>
        simp only [if_true] at q9 ⊢
        refine thnF (pe.run _ s9 σ8 H9 _ I10 q9) fun v s10 ⟨yv, H10, I11, r10, z, L, ey, hD10, few, nx⟩ => ?_
        subst ey
        obtain ⟨t, rfl⟩ := r10
        exact txO_add (X := X.blk s3 H3 scope ce fp) I11 hD10 few fun s11 L' pm I12 => back I12 (nx L' pm)
  have goal := PpSet.codeAny_compStart_set (rest := []) all (T.self X.A 0 _ _ _ st4 all)
  rw [← hs4, ← hce] at goal
  exact goal
/-- over anything that is walked -/
theorem sct_it {J : It} {n : Nat} {G : Hp → Prop} {Y : Nat → Hp → V → Hp → Prop} (wk : Walk J n G Y) {w : World} {g : TG} {tt : TT} {te : TE} {vs : List Nat} {σ : L2.St} {H1 : Hp} {D : Addr} {Qd : Hp → Prop} (Pv : Nat → Hp → Prop) (h0 : Pv 0 (upd H1 D (TxO w D []))) (hG : ∀ i H, i ≤ n → Pv i H → G H)
    (hs : ∀ i x H H', i < n → Pv i H → Y i H x H' → g x (wipe σ vs) H' fun σ2 H2 => wipe σ2 vs = wipe σ vs ∧ tt σ2 H2 fun b H3 =>
      if b = true then te σ2 H3 fun y H4 => ∃ (z : Str) (L : List Str), y = .str z ∧ H4 D = some (TxO w D L) ∧ L.length + 1 < scanBound ∧ ∀ L', L'.Perm (if z ∈ L then L else z :: L) → Pv (i + 1) (upd H4 D (TxO w D L')) else Pv (i + 1) H3) (hd : ∀ H, Pv n H → Qd H) :
    ∃ W : Nat → Nat → Hp → Prop, (∃ m, W 0 m (upd H1 D (TxO w D []))) ∧ ∀ i m H, W i m H →
      (J.stop i H ∧ Qd H) ∨ (J.go i H ∧ ∃ Nx : Hp → Prop, (∀ H', Nx H' → ∃ m', m' < m ∧ W (i + 1) m' H') ∧ ∀ x H', J.yld i H x H' → g x (wipe σ vs) H' fun σ2 H2 => wipe σ2 vs = wipe σ vs ∧ tt σ2 H2 fun b H3 =>
        if b = true then te σ2 H3 fun y H4 => ∃ (z : Str) (L : List Str), y = .str z ∧ H4 D = some (TxO w D L) ∧ L.length + 1 < scanBound ∧ ∀ L', L'.Perm (if z ∈ L then L else z :: L) → Nx (upd H4 D (TxO w D L')) else Nx H3) := by
  refine ⟨fun i m H => m = n - i ∧ i ≤ n ∧ Pv i H, ⟨n, (Nat.sub_zero n).symm, Nat.zero_le _, h0⟩, ?_⟩
  rintro i m H ⟨em, hi, p⟩
  subst em
  have gH := hG i H hi p
  rcases Nat.lt_or_ge i n with lt | ge
  · exact .inr ⟨wk.goes i H lt gH, Pv (i + 1), fun H' p' => ⟨n - (i + 1), by omega, rfl, lt, p'⟩, fun x H' y => hs i x H H' lt p (wk.yields i H x H' lt gH y)⟩
  · obtain rfl : i = n := by omega
    exact .inl ⟨wk.stops H gH, hd H p⟩
/-- sorted of such a set -/
def rSortX (w : World) : List V → Hp → VK → Prop := fun vs H Q => ∃ (a : Addr) (L : List Str), vs = [V.ref a] ∧ H a = some (TxO w a L) ∧ ∀ p, H p = none → Q (.ref p) (upd H p (.lst ((sortS L).map V.str)))
theorem strs_reads {h : Heap} : ∀ {zs : List Str} {us : List Value}, Vals (zs.map V.str) us → PySem.W.EachIs (fun (v : Value) (z : Str) => ∃ as, Reads h v (.str z) as ∧ ∀ a, a ∉ as) us zs
  | [], _, r => by cases r; exact .nil
  | z :: zs, _, r => by
    cases r with
    | cons r1 r2 =>
      obtain ⟨t, rfl⟩ := r1
      exact .cons ⟨[], .str z t, fun a m => nomatch m⟩ (strs_reads r2)
theorem strs_each : ∀ {zs : List Str} {us : List Value}, Vals (zs.map V.str) us → PySem.W.EachIs (fun (v : Value) (z : Str) => RelV (.str z) v) us zs
  | [], _, r => by cases r; exact .nil
  | z :: zs, _, r => by
    cases r with
    | cons r1 r2 => exact .cons r1 (strs_each r2)
theorem each_vals : ∀ {zs : List Str} {us : List Value}, PySem.W.EachIs (fun (v : Value) (z : Str) => RelV (.str z) v) us zs → Vals (zs.map V.str) us
  | _, _, .nil => .nil
  | _, _, .cons r t => .cons r (each_vals t)
theorem tx_vals {w : World} : ∀ {L : List Str} {l : List (Int × Value)}, Paired (TxE w) L l → Vals (L.map V.str) (l.map (·.2))
  | _, _, .nil => .nil
  | _, _, .cons ⟨t, e⟩ r => by
    subst e
    exact .cons ⟨t, rfl⟩ (tx_vals r)
theorem vals_perm {us us' : List Value} (p : us'.Perm us) {L : List Str} (r : Vals (L.map V.str) us) : ∃ L2 : List Str, L2.Perm L ∧ Vals (L2.map V.str) us' := by
  have r' : Paired (fun (z : Str) (u : Value) => RelV (.str z) u) L us := by
    clear p
    induction L generalizing us with
    | nil => cases r; exact .nil
    | cons z L ih =>
      cases r with
      | cons r1 r2 => exact .cons r1 (ih r2)
  obtain ⟨L', q1, q2⟩ := paired_perm p r'
  refine ⟨L', q1, ?_⟩
  clear q1 r r' p
  induction q2 with
  | nil => exact .nil
  | cons a _ ih => exact .cons a ih
theorem cr_sortX (hc : X.calm = true) (hu : X.A.units + 64 < cLine) : CallR X (.builtin "sorted") (rSortX X.w) := by
  intro pins s σ H vs us Q I r h
  obtain ⟨a, L, rfl, ha, q⟩ := h
  rw [Vals.ref1 r]
  obtain ⟨⟨o, es, ep, t, ho, hex, hd, hp, hf, hr, hl⟩, hn, hb⟩ := txO_at I ha
  have hz : es.size < scanBound := by rw [tx_len hp]; exact hb
  refine Calls.call_function_entry kind_sorted plain_sorted entry_sorted (args_sorted1 _) ?_
  unfold Builtin.«sorted»
  refine wpAny_bind (m := checkCount "sorted" 1 1 _) (wpAny_pure ?_)
  refine wpAny_bind (collect_set (A := X.A.in1) (I.ok.hd hc) ⟨o, ho, hex.1, hd⟩ hf hz hr hl fun s1 out k1 z1 g1 o1 pm => ?_)
  obtain ⟨L1, pL, vL⟩ := vals_perm pm (tx_vals hp)
  have ln : L1.length = L.length := pL.length_eq
  have lo : out.length = L1.length := by rw [← vL.length, List.length_map]
  have small : L1.length ≤ sizeLine := by rw [ln]; exact fits_of_scanBound hb
  refine wpAny_bind (wpAny_newList ?_ (by rw [lo]; exact small))
  have at1 : (s1.heap.push (seqObj "list" out.toArray 0)).get? s1.heap.objs.size = some (seqObj "list" out.toArray 0) := Heap.get?_push_size _ rfl
  have e0 : L1.mergeSort (PySem.W.dataLe false PyData.str) = sortS L := by
    have e1 : L1.mergeSort (PySem.W.dataLe false PyData.str) = sortS L1 := by
      have e := (List.map_mergeSort (f := id) (r := leS) (s := PySem.W.dataLe false PyData.str) (l := L1) fun x _ y _ => ?_)
      · rw [List.map_id, List.map_id] at e
        exact e.symm
      · rw [PySem.W.dataLe_eq]
        show leS x y = !PySem.W.dataLt (.str y) (.str x)
        rw [PySem.W.dataLt_str]; rfl
    rw [e1]
    exact sortS_of_perm pL
  refine wpAny_bind (wpAny_holding (PySem.W.list_sort_data (enc := PyData.str) (R := fun v z => RelV (.str z) v) at1 (strs_each vL) ((strs_reads vL).mono fun v z ⟨as, rd, hn⟩ => ⟨as, rd, hn _⟩) (PySem.W.AllAlike.of fun _ _ => by simp [PySem.W.alike]) (PySem.W.Sortable.others (enc := PyData.str) fun z => ⟨(fun e => nomatch e), fun xs e => nomatch e⟩) small
    (fun z _ => by rw [PyData.depth]; show X.A.units + 1 + 1 + 0 < cLine; omega) fun out2 l2 e2 => ?_))
  rw [e0] at e2
  have v2 := each_vals e2
  obtain ⟨c, at2⟩ := sortedHeap_at (vs := out) (out := out2.toArray) at1
  have keep : ∀ b u, s.heap.get? b = some u → (sortedHeap (s1.heap.push (seqObj "list" out.toArray 0)) s1.heap.objs.size out out2.toArray).get? b = some u := fun b u e => by
    have e' := k1 b u e
    have lt := Heap.lt_size e'
    rw [sortedHeap_old (Nat.ne_of_lt lt) (by rw [size_push']; exact Nat.lt_succ_of_lt lt)]
    exact Heap.get?_push_of_some _ e'
  have nw : H s1.heap.objs.size = none := I.hok.fresh z1
  refine wpAny_pure ⟨_, rfl, .ref s1.heap.objs.size, upd H s1.heap.objs.size (.lst ((sortS L).map V.str)), ?_, rfl, q _ nw⟩
  have new : ObjOk X.prog X.w (upd H s1.heap.objs.size (.lst ((sortS L).map V.str))) (sortedHeap (s1.heap.push (seqObj "list" out.toArray 0)) s1.heap.objs.size out out2.toArray) s1.heap.objs.size (.lst ((sortS L).map V.str)) :=
    ⟨by rw [List.length_map, (sortS_perm L).length_eq]; exact fits_of_scanBound hb, out2, c, v2, at2⟩
  have J := I.call (ch := []) (g' := s1.gens) (d' := s1.drawn) (t' := s1.toks) (Un.laid keep z1 nw) (I.hok.laid keep z1 new) (by rw [g1]; exact I.bare) (fun _ z => nomatch z)
  obtain ⟨hp1, gg, dd, tt, oo⟩ := s1
  cases o1
  exact J
end
end Hw

set_option Elab.async false
set_option linter.all false
set_option maxRecDepth 100000
set_option maxHeartbeats 2000000
namespace Hw
open PySem PySem.Spec PyProof.Rows L2
/-- d.update(e), e another dict -/
def rDUpd : V → List V → Hp → VK → Prop := fun x xs H Q => ∃ (a b : Addr) (kvs more : List (Key × V)), x = .ref a ∧ xs = [.ref b] ∧ H a = some (.dK kvs) ∧ H b = some (.dK more) ∧ a ≠ b ∧ kvs.length + more.length ≤ sizeLine ∧ Q .non (upd H a (.dK (mergeK kvs more)))
theorem mt_update {X : Cx} : MtR X "dict.update" rDUpd := by
  intro pins s σ H x xs v us Q I rx rxs h
  obtain ⟨a, b, kvs, more, rfl, rfl, ha, hb, hne, hz, q⟩ := h
  cases rx
  obtain ⟨u, rfl, ru⟩ := rxs.one
  obtain rfl : u = Value.ref b := ru
  obtain ⟨z1, m1, vs1, rel1, d1⟩ := dk_of I.hok ha
  obtain ⟨z2, m2, vs2, rel2, d2⟩ := dk_of I.hok hb
  refine call_meetsIn PySem.F.slot_dict_update d1.typeIs PySem.F.entry_dict_update (PySem.F.args_dict_update_2 _ _) (meets_dict_update (mixKind X.prog X.w) a b hne m2) ⟨vs1, vs2, d1, d2, (by rw [← rel1.length, ← rel2.length]; exact hz), fun h' dd _ sb => ?_⟩
  have he : ∃ o, h'.get? a = some o := let ⟨o, _, _, ho, _⟩ := dd; ⟨o, ho⟩
  have hl : (mergeK kvs more).length ≤ sizeLine := Nat.le_trans (length_mergeK more kvs) hz
  exact ⟨.non, upd H a (.dK (mergeK kvs more)), d_write (t' := s.toks) I (by rw [ha]; exact True.intro) sb he (dk_new hl m1 (KV.merge rel2 rel1) dd), rfl, q⟩
end Hw

set_option Elab.async false
set_option linter.all false
set_option maxRecDepth 100000
set_option maxHeartbeats 2000000
namespace Hw
open PySem PySem.Spec PyProof.Rows L2
/-! {k: v, **d} -/
section
variable {prog : Program} {w : World} {A : Around} {E : Value → Shared → Prop} {s : Shared} {K : Type} [DecidableEq K] {knd : KeyKind prog w K}
theorem dictPut_pairs {d : Addr} {kvs : List (K × Value)} {k : K} {key v : Value} {Q : Unit → Shared → Prop} (hkey : knd.is k key = true) (hm : s.heap.DictOf knd d kvs) (hsz : kvs.length ≤ sizeLine)
    (hQ : ∀ h', h'.DictOf knd d (stored kvs k v) → Heap.SameBut d s.heap h' → Q () { s with heap := h' }) : wpAny (model prog w) A (dictPut d (knd.hash k) key v) Q E s := by
  obtain ⟨o, es, ep, ho, hc, hd, hk, hp, hn⟩ := hm
  have hes : es.size ≤ sizeLine := by
    have e1 := hp.length
    have e2 : es.toList.length = es.size := by simp
    omega
  have hidx : (es.findIdx? fun e => knd.is k e.key) = kvs.findIdx? fun kv => decide (kv.1 = k) := by
    rw [← hp.findIdx k]
    obtain ⟨l⟩ := es
    simp
  unfold dictPut
  refine wpAny_bind (wpAny_dictFind_of hkey ho hd hk ?_)
  cases hi : es.findIdx? fun e => knd.is k e.key with
  | some i =>
    have yes := any_of_findIdx_some (hidx ▸ hi)
    have hl : (es.toList.findIdx? fun e => knd.is k e.key) = some i := by
      rw [← hi]
      obtain ⟨l⟩ := es
      simp
    refine wpAny_updateDict ho hd (hQ _ ⟨_, _, ep, Heap.get?_update_self _ ho (Obj.isFreed_of_dict (Obj.data_mapDict hd _)), hc.mapDict _, Obj.data_mapDict hd _, hk.modify _ _, ?_, ?_⟩ (Heap.SameBut.update ..))
    · rw [stored, if_pos yes]
      have z := hp.modify hn hl v
      obtain ⟨l⟩ := es
      simpa using z
    · rw [stored, if_pos yes, keys_map_store]
      exact hn
  | none =>
    have new := not_mem_of_findIdx_none (hidx ▸ hi)
    have no : ¬ (kvs.any fun kv => decide (kv.1 = k)) = true := fun z => by
      obtain ⟨kv, h1, h2⟩ := List.any_eq_true.mp z
      exact new (List.mem_map.mpr ⟨kv, h1, of_decide_eq_true h2⟩)
    refine wpAny_updateDictKeys (hz := hes) ho hd (hQ _ ⟨_, _, ep + 1, Heap.get?_update_self _ ho (Obj.isFreed_of_dict (Obj.data_mapDictKeys hd _)), hc.mapDictKeys _, Obj.data_mapDictKeys hd _, hk.push hkey _, ?_, ?_⟩ (Heap.SameBut.update ..))
    · rw [stored, if_neg no]
      have z := hp.append hkey (knd.hash k) v
      obtain ⟨l⟩ := es
      simpa using z
    · rw [stored, if_neg no, List.map_append, List.nodup_append]
      refine ⟨hn, by simp, fun a ha b hb e => new ?_⟩
      rw [List.map_cons, List.map_nil, List.mem_singleton] at hb
      have hb : b = k := hb
      rw [← hb, ← e]
      exact ha
theorem typeIs_inst {v : Value} {Q : Bool → Shared → Prop} (h : s.TypeIs v "dict") (q : Q true s) : wpAny (model prog w) A (isInstance v (.type "dict")) Q E s := wpAny_isInstance h (by kernel_rfl) q
/-- the entries of one dict put into another one that is not empty -/
theorem mergeMapping_ok {d o : Addr} {kvs more : List (K × Value)} {Q : Unit → Shared → Prop} (hdo : d ≠ o) (hoS : (o == sysModules) = false) (hne : kvs ≠ []) (hd : s.heap.DictOf knd d kvs) (ho : s.heap.DictOf knd o more) (hsz : kvs.length + more.length ≤ sizeLine)
    (hQ : ∀ h', h'.DictOf knd d (merged kvs more) → h'.DictOf knd o more → Heap.SameBut d s.heap h' → Q () { s with heap := h' }) : wpAny (model prog w) A (mergeMapping d (.ref o) false) Q E s := by
  obtain ⟨od, esd, epd, hod, hcd, hdd, hkd, hpd, hnd⟩ := id hd
  obtain ⟨oo, eso, epo, hoo, hco, hdo', hko, hpo, hno⟩ := id ho
  have hlen : more.length = eso.size := by rw [← hpo.length]; simp
  unfold mergeMapping
  refine wpAny_bind (typeIs_inst ho.typeIs ?_)
  dsimp only
  rw [if_pos rfl]
  refine wpAny_bind (wpAny_specialOf ho.typeIs F.slot_dict_iter.lookup (wpAny_bind (wpAny_pure ?_)))
  have e0 : (some (Value.builtin "dict.__iter__") == some (Value.builtin "dict.__iter__")) = true := by decide +kernel
  rw [e0]
  dsimp only
  rw [if_neg (by rw [hoS]; exact Bool.false_ne_true)]
  refine wpAny_bind (wpAny_dictEntries hod hdd ?_)
  have hes : ¬ (esd.isEmpty = true) := fun z => hne (by
    have h0 : esd = #[] := Array.isEmpty_iff.mp z
    have h1 := hpd.length
    rw [h0] at h1
    exact List.length_eq_zero_iff.mp h1.symm)
  rw [if_neg hes]
  refine wpAny_bind (wpAny_dictEntries hoo hdo' ?_)
  refine wpAny_bind (wpAny_dictEpoch hoo hdo' ?_)
  refine wpAny_bind ?_
  refine wpAny_forIn_list _
    (fun rest _ s' => ∃ h' i, s' = { s with heap := h' } ∧ rest = List.range' i (eso.size - i) ∧ i ≤ eso.size ∧ h'.DictOf knd d (merged kvs (more.take i)) ∧ h'.get? o = some oo ∧ Heap.SameBut d s.heap h')
    _ ?_ ?_ _ _ ⟨s.heap, 0, rfl, by rw [List.range_eq_range']; rfl, Nat.zero_le _, hd, hoo, Heap.SameBut.refl _ _⟩
  · rintro x rest b s' ⟨h', i, rfl, hr, hi, hd', hoo', hs'⟩
    have hlt : i < eso.size := by
      rcases Nat.lt_or_ge i eso.size with h | h
      · exact h
      · rw [Nat.sub_eq_zero_of_le h] at hr; cases hr
    obtain ⟨rfl, hrest⟩ : x = i ∧ rest = List.range' (i + 1) (eso.size - (i + 1)) := by
      rw [show eso.size - i = (eso.size - (i + 1)) + 1 by omega, List.range'_succ] at hr
      injection hr with h1 h2
      exact ⟨h1, h2⟩
    refine wpAny_bind (wpAny_dictEntries hoo' hdo' ?_)
    rw [Array.getElem?_eq_getElem hlt]
    obtain ⟨⟨k, v⟩, hkv⟩ : ∃ kv, more[x]? = some kv := ⟨more[x]'(by rw [hlen]; exact hlt), List.getElem?_eq_getElem _⟩
    obtain ⟨hkey, hval⟩ := hpo.get? (e := eso[x]) (by simp [hlt]) hkv
    obtain ⟨k', hkey', hhash⟩ := hko eso[x] (Array.getElem_mem hlt)
    obtain rfl : k' = k := knd.inj _ _ _ hkey' hkey
    have hmx : (merged kvs (more.take x)).length ≤ sizeLine := by
      have e1 := merged_length_le kvs (more.take x)
      have e2 : (more.take x).length ≤ more.length := by rw [List.length_take]; omega
      omega
    dsimp only
    refine wpAny_bind (wpAny_holding ?_)
    rw [if_neg Bool.false_ne_true, hhash, hval]
    refine dictPut_pairs hkey hd' hmx fun h'' hd'' hs'' => ?_
    have hoo'' : h''.get? o = some oo := (hs''.2 o (Ne.symm hdo)).trans hoo'
    refine wpAny_bind (wpAny_dictEpoch hoo'' hdo' ?_)
    rw [if_neg (by simp)]
    exact wpAny_pure ⟨h'', x + 1, rfl, hrest, hlt, by rw [merged_take_succ kvs more x (k', v) hkv]; exact hd'', hoo'', hs'.trans hs''⟩
  · rintro b s' ⟨h', i, rfl, hr, hi, hd', hoo', hs'⟩
    have hin : i = eso.size := by
      rcases Nat.lt_or_ge i eso.size with h | h
      · rw [show eso.size - i = (eso.size - (i + 1)) + 1 by omega, List.range'_succ] at hr
        cases hr
      · exact Nat.le_antisymm hi h
    refine wpAny_pure (hQ h' ?_ ⟨oo, eso, epo, hoo', hco, hdo', hko, hpo, hno⟩ hs')
    rw [hin, ← hlen, List.take_length] at hd'
    exact hd'
end
/-- the new dict p: {k: v, **m} -/
def tDispS (tk tv tm : TE) : TE := fun σ H Q => ∀ p, H p = none → tk σ (upd H p (.dK [])) fun x H1 => tv σ H1 fun y H2 => ∃ k : Key, x = kV k ∧ H2 p = some (.dK []) ∧
  tm σ (upd H2 p (.dK [(k, y)])) fun z H3 => ∃ (a : Addr) (more : List (Key × V)), z = .ref a ∧ H3 p = some (.dK [(k, y)]) ∧ H3 a = some (.dK more) ∧ a ≠ p ∧ more.length < sizeLine ∧ Q (.ref p) (upd H3 p (.dK (mergeK [(k, y)] more)))
theorem pe_dispS {X : Cx} {kx vx mx : Expr} {tk tv tm : TE} {pos : Pos} (hk : PE X kx tk) (hv : PE X vx tv) (hm : PE X mx tm) : PE X (.Dict [some kx, none] [vx, mx] pos) (tDispS tk tv tm) := by
  refine ⟨fun pins s σ H Q I q => ?_⟩
  have hn := I.hok.fresh (Nat.le_refl s.heap.objs.size)
  have I1 := I.laid (a := s.heap.objs.size) (o := .dK []) (h' := s.heap.push { cls := .type "dict", data := .dict #[] }) (t' := s.toks) (fun _ _ q => Heap.get?_push_of_some _ q) (Nat.le_refl _) (dk_empty s.heap I.big)
  rw [arm_eval_Dict]
  refine wpAny_bind (wpAny_standAt ?_)
  have e1 : (evalEachOpt [some kx, none] X.env).zip ((evalEach [vx, mx] X.env).map fun v => do let x ← v; standAt pos; pure x) = [(some (eval kx X.env), do let x ← eval vx X.env; standAt pos; pure x), (none, do let x ← eval mx X.env; standAt pos; pure x)] := by rfl
  rw [e1]
  unfold dictDisplay
  simp only [List.forIn_cons, List.forIn_nil]
  refine wpAny_bind (wpAny_bind ?_)
  rw [if_neg (by simp)]
  refine wpAny_pure ?_
  dsimp only
  rw [if_neg (by simp)]
  refine wpAny_bind (wpAny_bind (wpAny_bind ?_))
  show wpAny _ _ (subDict [(eval kx X.env, do let x ← eval vx X.env; standAt pos; pure x)]) _ _ _
  refine wpAny_subDict (knd := mixKind X.prog X.w) (by show 1 ≤ 15; decide) (evalPairs_cons (thn (hk.run pins _ σ _ _ I1 (q _ hn)) fun u s1 ⟨x, H1, I2, rx, q1⟩ => ?_))
  refine wpAny_bind (thn (hv.run pins s1 σ H1 _ I2 q1) fun u2 s2 ⟨y, H2, I3, ry, k, ex, ep, q2⟩ => ?_)
  subst ex
  refine wpAny_bind (wpAny_standAt (wpAny_pure (evalPairs_nil ?_)))
  obtain ⟨z0, hd0, vs0, r0, dd0⟩ := dk_of I3.hok ep
  cases r0
  refine ⟨[(k, u2)], ⟨kV_is rx, rfl, trivial⟩, dd0, fun h' dd' sb => ?_⟩
  have hex : ∃ o, h'.get? s.heap.objs.size = some o := let ⟨o, _, _, ho, _⟩ := dd'; ⟨o, ho⟩
  have kv1 : KV [(k, y)] [(k, u2)] := .cons ⟨rfl, ry⟩ .nil
  have I4 : Inv X pins σ (upd H2 s.heap.objs.size (.dK [(k, y)])) { s2 with heap := h', toks := s2.toks + ([(u, u2)] : List (Value × Value)).length } :=
    d_write I3 (by rw [ep]; exact True.intro) sb hex (dk_new (by show 1 ≤ sizeLine; decide) hd0 kv1 dd')
  refine wpAny_pure ?_
  dsimp only
  refine wpAny_bind (wpAny_pure ?_)
  refine wpAny_bind (wpAny_holding (wpAny_bind (thn (hm.run pins _ σ _ _ I4 q2) fun u3 s3 ⟨z, H3, I5, rz, a, more, ez, ep3, ea3, hne, hl, q3⟩ => wpAny_bind (wpAny_standAt (wpAny_pure ?_)))))
  subst ez
  obtain rfl : u3 = Value.ref a := rz
  obtain ⟨z1, m1, vs1, rel1, d1⟩ := dk_of I5.hok ep3
  obtain ⟨z2, m2, vs2, rel2, d2⟩ := dk_of I5.hok ea3
  have hne1 : vs1 ≠ [] := fun e => by
    have := rel1.length
    rw [e] at this
    cases this
  have hl1 : vs1.length = 1 := rel1.length.symm
  have hl2 := rel2.length
  refine wpAny_bind (wpAny_onRaise (wpAny_tryCatch (wpAny_onRaise (wpAny_holding (mergeMapping_ok (Ne.symm hne) m2 hne1 d1 d2 (by omega) fun h6 dd6 _ sb6 => ?_)))))
  refine wpAny_pure (wpAny_pure ?_)
  dsimp only
  rw [if_pos (show ([] : List (Sem Value × Sem Value)).isEmpty = true from rfl)]
  refine wpAny_bind (wpAny_pure ?_)
  dsimp only
  refine wpAny_pure ?_
  have hex6 : ∃ o, h6.get? s.heap.objs.size = some o := let ⟨o, _, _, ho, _⟩ := dd6; ⟨o, ho⟩
  have hl6 : (mergeK [(k, y)] more).length ≤ sizeLine := Nat.le_trans (length_mergeK more _) (by show 1 + more.length ≤ _; omega)
  exact ⟨.ref s.heap.objs.size, _, d_write (t' := s3.toks) I5 (by rw [ep3]; exact True.intro) sb6 hex6 (dk_new hl6 m1 (KV.merge rel2 rel1) dd6), rfl, q3⟩
end Hw

set_option Elab.async false
set_option linter.all false
set_option maxRecDepth 100000
set_option maxHeartbeats 4000000
namespace Hw
open PySem L2 PyProof.Rows
abbrev sScI : Stmt := inClass (topS 29) 0
abbrev sGoOn : Stmt := inClass (topS 29) 1
abbrev sComeS : Stmt := inClass (topS 29) 3
abbrev sPlayed : Stmt := topS 33
abbrev sMayB : Stmt := topS 47
abbrev sBreaks : Stmt := topS 46
theorem pe_never {X : Cx} {e : Expr} : PE X e (fun _ _ _ => False) := ⟨fun _ _ _ _ _ _ h => h.elim⟩
theorem pt_never {X : Cx} {e : Expr} : PT X e (fun _ _ _ => False) := ⟨fun _ _ _ _ _ _ h => h.elim⟩
theorem passLN {X : Cx} : Passes (L2N.CX X.prog X.w) X E0 := fun _ _ _ _ _ _ _ h => by
  obtain ⟨_, _, _, _, _, _, _, _, _, _, _, _, z⟩ := h
  exact z.elim
structure TxtS (K : PySem.W.Frag) (mg : Str → Option Value) (C : Addr) : Prop where
  cl : Cls K C
  nL : NoAttr K C "living"
  nM : NoAttr K C "many"
  nE : NoAttr K C "elder"
  nF : NoAttr K C "far"
  mS : mg "Scene" = some (.ref C)
/-- what stands elsewhere stays -/
def But (l : List Addr) (H H' : Hp) : Prop := ∀ b o, b ∉ l → H b = some o → H' b = some o
theorem But.of {l : List Addr} {H H' : Hp} (s : Same H H') : But l H H' := fun b o _ e => s b o e
theorem But.trans {l : List Addr} {H H1 H2 : Hp} (x : But l H H1) (y : But l H1 H2) : But l H H2 := fun b o n e => y b o n (x b o n e)
theorem But.put {l : List Addr} {H : Hp} {a : Addr} {o : HO} (h : a ∈ l) : But l H (upd H a o) := fun b u n e => by
  rw [upd_ne (fun z => n (by rw [z]; exact h))]; exact e
structure ScO (C : Addr) (H : Hp) (x lv el fr : Addr) : Prop where
  ex : ∃ dx fs, H x = some (.ins C dx fs) ∧ fs.length ≤ 4 ∧ fs.lookup ("living" : Str) = some (.ref lv) ∧ fs.lookup ("many" : Str) = some (.int 0) ∧ fs.lookup ("elder" : Str) = some (.ref el) ∧ fs.lookup ("far" : Str) = some (.ref fr) ∧
    fs.lookup ("go_on" : Str) = none ∧ fs.lookup ("_come" : Str) = none
  hl : H lv = some (.lst [])
  he : H el = some (.dK [])
  hf : H fr = some (.dK [])
  ne : el ≠ fr
def spScI (C : Addr) : Sp := fun vs H Q _ => ∃ (x dx : Addr), vs = [.ref x] ∧ H x = some (.ins C dx []) ∧ ∀ lv el fr H', ScO C H' x lv el fr → SameX x H H' → H lv = none → H el = none → H fr = none → Q .non H'
def spComeS (C : Addr) : Sp := fun vs H Q _ => ∃ (x t el fr dx : Addr) (fs : List (Str × V)), vs = [.ref x, .str sA, .ref t] ∧ H x = some (.ins C dx fs) ∧ fs.length ≤ 10 ∧ fs.lookup ("many" : Str) = some (.int 0) ∧ fs.lookup ("elder" : Str) = some (.ref el) ∧ fs.lookup ("far" : Str) = some (.ref fr) ∧
  H t = some (.tup []) ∧ H el = some (.dK []) ∧ H fr = some (.dK []) ∧ el ≠ fr ∧ ∀ H', But [x, el, fr] H H' → Q .non H'
def spGoOn1 (C : Addr) : Sp := fun vs H Q _ => ∃ (x q lv el fr : Addr), vs = [.ref x, .ref q] ∧ ScO C H x lv el fr ∧ DeedAt H q (.come sA []) ∧ ∀ H', But [x, el, fr] H H' → Q .non H'
section
variable {P : Program} {w : World} {K : PySem.W.Frag} {mg : Str → Option Value} {base : Heap}
theorem scScI : FnScope ["self"] ["self"] (defScope sScI) := ⟨rfl, rfl, rfl, by decide +kernel, rfl, by decide +kernel, by decide +kernel⟩
theorem ok_scI {f C : Addr} {fd : FuncData} {k : Nat} (F : Fun K "__init__" "Scene.__init__" sScI f fd) (T : TxtS K mg C) : FnOk P w K mg base CX0 (k + 1) f fd ["self"] (spScI C) := by
  refine F.ok scScI (fun vs H Q E h => ?_) (fun cdv A outer s H vs Q E hr h => ?_)
  · obtain ⟨x, dx, rfl, _⟩ := h
    rfl
  · obtain ⟨x, dx, rfl, hx, q⟩ := h
    refine ⟨_, pss_cons (ps_fld (pv 0) (pe_lst pa_nil) rfl) (pss_cons (ps_fld (pv 0) pe_int rfl) (pss_cons (ps_fld (pv 0) pe_dnewK rfl) (pss_one (ps_fld (pv 0) pe_dnewK rfl)))), ?_⟩
    refine ⟨Nat.zero_le _, fun lv nlv => ⟨.ref x, rfl, x, C, dx, _, rfl, (same_upd nlv) _ _ hx, T.cl, T.nL, by decide, ?_⟩⟩
    have n1 : x ≠ lv := fun z => by rw [z, nlv] at hx; cases hx
    have l1 := length_putF "living" (V.ref lv) []
    have s1 : SameX x H (upd (upd H lv (.lst [])) x (.ins C dx (putF "living" (.ref lv) []))) := (SameX.of (same_upd nlv)).put
    have el1 : (upd (upd H lv (.lst [])) x (.ins C dx (putF "living" (.ref lv) []))) lv = some (.lst []) := by rw [upd_ne (Ne.symm n1)]; exact upd_same
    have ex1 : (upd (upd H lv (.lst [])) x (.ins C dx (putF "living" (.ref lv) []))) x = some (.ins C dx (putF "living" (.ref lv) [])) := upd_same
    generalize (upd (upd H lv (.lst [])) x (.ins C dx (putF "living" (.ref lv) []))) = H1 at s1 el1 ex1 ⊢
    refine ⟨.ref x, rfl, x, C, dx, _, rfl, ex1, T.cl, T.nM, Nat.lt_of_le_of_lt l1 (by decide), ?_⟩
    have l2 := length_putF "many" (V.int 0) (putF "living" (.ref lv) [])
    have s2 : SameX x H (upd H1 x (.ins C dx (putF "many" (.int 0) (putF "living" (.ref lv) [])))) := s1.put
    have el2 : (upd H1 x (.ins C dx (putF "many" (.int 0) (putF "living" (.ref lv) [])))) lv = some (.lst []) := by rw [upd_ne (Ne.symm n1)]; exact el1
    have ex2 : (upd H1 x (.ins C dx (putF "many" (.int 0) (putF "living" (.ref lv) [])))) x = some (.ins C dx (putF "many" (.int 0) (putF "living" (.ref lv) []))) := upd_same
    generalize (upd H1 x (.ins C dx (putF "many" (.int 0) (putF "living" (.ref lv) [])))) = H2 at s2 el2 ex2 ⊢
    intro el nel
    have hxn : H2 x ≠ none := by rw [ex2]; exact fun z => nomatch z
    have nel0 : H el = none := s2.free hxn nel
    have nx : el ≠ x := fun z => hxn (z ▸ nel)
    have nl : el ≠ lv := fun z => by rw [z, el2] at nel; cases nel
    have s3 := same_upd (o := .dK []) nel
    refine ⟨.ref x, rfl, x, C, dx, _, rfl, s3 _ _ ex2, T.cl, T.nE, Nat.lt_of_le_of_lt l2 (by have : (putF "living" (V.ref lv) []).length ≤ 1 := l1; omega), ?_⟩
    have l3 := length_putF "elder" (V.ref el) (putF "many" (.int 0) (putF "living" (.ref lv) []))
    have s4 : SameX x H (upd (upd H2 el (.dK [])) x (.ins C dx (putF "elder" (.ref el) (putF "many" (.int 0) (putF "living" (.ref lv) []))))) := (s2.trans (.of s3)).put
    have el4 : (upd (upd H2 el (.dK [])) x (.ins C dx (putF "elder" (.ref el) (putF "many" (.int 0) (putF "living" (.ref lv) []))))) lv = some (.lst []) := by rw [upd_ne (Ne.symm n1)]; exact s3 _ _ el2
    have ee4 : (upd (upd H2 el (.dK [])) x (.ins C dx (putF "elder" (.ref el) (putF "many" (.int 0) (putF "living" (.ref lv) []))))) el = some (.dK []) := by rw [upd_ne nx]; exact upd_same
    have ex4 : (upd (upd H2 el (.dK [])) x (.ins C dx (putF "elder" (.ref el) (putF "many" (.int 0) (putF "living" (.ref lv) []))))) x = some (.ins C dx (putF "elder" (.ref el) (putF "many" (.int 0) (putF "living" (.ref lv) [])))) := upd_same
    generalize (upd (upd H2 el (.dK [])) x (.ins C dx (putF "elder" (.ref el) (putF "many" (.int 0) (putF "living" (.ref lv) []))))) = H4 at s4 el4 ee4 ex4 ⊢
    clear s3 s2 s1 el2 ex2 el1 ex1
    intro fr nfr
    have hxn4 : H4 x ≠ none := by rw [ex4]; exact fun z => nomatch z
    have nfr0 : H fr = none := s4.free hxn4 nfr
    have nfx : fr ≠ x := fun z => hxn4 (z ▸ nfr)
    have nfl : fr ≠ lv := fun z => by rw [z, el4] at nfr; cases nfr
    have nfe : fr ≠ el := fun z => by rw [z, ee4] at nfr; cases nfr
    have s5 := same_upd (o := .dK []) nfr
    have l1' : (putF "living" (V.ref lv) []).length ≤ 1 := l1
    refine ⟨.ref x, rfl, x, C, dx, _, rfl, s5 _ _ ex4, T.cl, T.nF, by omega, ?_⟩
    have l4 := length_putF "far" (V.ref fr) (putF "elder" (.ref el) (putF "many" (.int 0) (putF "living" (.ref lv) [])))
    refine q lv el fr _ ⟨⟨dx, _, upd_same, by omega, ?_, ?_, ?_, ?_, ?_, ?_⟩, ?_, ?_, ?_, Ne.symm nfe⟩ (s4.trans (.of s5)).put nlv nel0 nfr0
    · rw [lookup_putF, if_neg (by decide), lookup_putF, if_neg (by decide), lookup_putF, if_neg (by decide), lookup_putF, if_pos rfl]
    · rw [lookup_putF, if_neg (by decide), lookup_putF, if_neg (by decide), lookup_putF, if_pos rfl]
    · rw [lookup_putF, if_neg (by decide), lookup_putF, if_pos rfl]
    · rw [lookup_putF, if_pos rfl]
    · rw [lookup_putF, if_neg (by decide), lookup_putF, if_neg (by decide), lookup_putF, if_neg (by decide), lookup_putF, if_neg (by decide)]; rfl
    · rw [lookup_putF, if_neg (by decide), lookup_putF, if_neg (by decide), lookup_putF, if_neg (by decide), lookup_putF, if_neg (by decide)]; rfl
    · rw [upd_ne (Ne.symm n1)]; exact s5 _ _ el4
    · rw [upd_ne nx]; exact s5 _ _ ee4
    · rw [upd_ne nfx]; exact upd_same
end
end Hw

set_option Elab.async false
set_option linter.all false
set_option maxRecDepth 100000
set_option maxHeartbeats 4000000
namespace Hw
open PySem L2 PyProof.Rows
/-- for k in d, d being empty -/
theorem rs_lock0 {te : TE} {tb u : TS} {j : Nat} {D : Ends} {σ : L2.St} {H : Hp} (d : Addr) (hd : H d = some (.dK [])) (ha : ∀ H' (Q : VK), Q (.ref d) H' → te σ H' Q) (h : u D σ H) : tSeq (tLock (tFor (iKeys te) (gName j) tb)) u D σ H :=
  ⟨d, .dK [], hd, trivial, fun od => ha _ _ ⟨d, od, rfl, .inl ⟨[], upd_same, for_it walk_keys (fun i σ' H' => H' = upd H d (.frz od (.dK [])) ∧ σ' = σ) ⟨rfl, rfl⟩ (fun i σ H _ h => by rw [h.1]; exact upd_same)
    (fun i x σ H H' hi => absurd hi (Nat.not_lt_zero _))
    (fun σ1 H1 h1 => by
      obtain ⟨e1, e2⟩ := h1
      subst e1 e2
      refine ⟨upd_same, ?_⟩
      have e : upd (upd H d (.frz od (.dK []))) d (.dK []) = H := by
        funext b
        by_cases hb : b = d
        · subst hb; rw [upd_same]; exact hd.symm
        · rw [upd_ne hb, upd_ne hb]
      rw [e]
      exact h)⟩⟩⟩
section
variable {P : Program} {w : World} {K : PySem.W.Frag} {mg : Str → Option Value} {base : Heap}
theorem scComeS : FnScope ["self", "name", "ties", "near", "tie", "other", "way"] ["self", "name", "ties"] (defScope sComeS) := ⟨rfl, rfl, rfl, by decide +kernel, rfl, by decide +kernel, by decide +kernel⟩
theorem ok_comeS {f C : Addr} {fd : FuncData} {k : Nat} (F : Fun K "_come" "Scene._come" sComeS f fd) (B : Blt mg) (T : TxtS K mg C) : FnOk P w K mg base CX0 (k + 1) f fd ["self", "name", "ties"] (spComeS C) := by
  refine F.ok scComeS (fun vs H Q E h => ?_) (fun cdv A outer s H vs Q E hr h => ?_)
  · obtain ⟨x, t, el, fr, dx, fs, rfl, _⟩ := h
    rfl
  · obtain ⟨x, t, el, fr, dx, fs, rfl, hx, hl, l1, l2, l3, ht, he, hf, hne, q⟩ := h
    have hu := hu_of hr
    refine ⟨_, pss_cons (ps_fldaug (pv 0) (pe_callB call_len_seq (by rfl) B.len PySem.boot_len (pa_cons (pv 2) pa_nil)) in_add)
      (pss_cons (ps_dput hu (pe_fld (pv 0) rfl) (pv 1) (pe_callB call_len_seq (by rfl) B.len PySem.boot_len (pa_cons (pv 2) pa_nil)) rfl)
      (pss_cons (ps_set (i := 3) scComeS.nd rfl (.inl rfl) pe_dnewK)
      (pss_cons (ps_for PassesOwn.never rfl (pi_tup (pv 2)) (pg_name (i := 4) scComeS.nd rfl (.inl rfl)) pss_never)
      (pss_cons (ps_lock (ps_for PassesOwn.never rfl (pi_keys (pv 3)) (pg_name (i := 5) scComeS.nd rfl (.inl rfl)) pss_never))
      (pss_cons (ps_dput hu (pe_fld (pv 0) rfl) (pv 1) (pe_dispS (pv 1) pe_int (pv 3)) rfl)
      (pss_one (ps_if (pt_cmpR op_gt (pe_callB call_len_seq (by rfl) B.len PySem.boot_len (pa_cons (pv 2) pa_nil)) pe_int (nomark _)) pss_never pss_nil))))))), ?_⟩
    have xt : x ≠ t := fun z => by rw [z, ht] at hx; cases hx
    have xe : x ≠ el := fun z => by rw [z, he] at hx; cases hx
    have xf : x ≠ fr := fun z => by rw [z, hf] at hx; cases hx
    have te : t ≠ el := fun z => by rw [z, he] at ht; cases ht
    have tf : t ≠ fr := fun z => by rw [z, hf] at ht; cases ht
    refine ⟨.ref x, rfl, x, C, dx, fs, .int 0, rfl, hx, T.cl, T.nM, l1, .ref t, rfl, t, [], rfl, .inr (sqt_of ht), 0, 0, rfl, rfl, dx, fs, hx, by omega, ?_⟩
    have b1 : But [x, el, fr] H (upd H x (.ins C dx (putF "many" (.int (0 + 0)) fs))) := But.put (by simp)
    have ex1 : (upd H x (.ins C dx (putF "many" (.int (0 + 0)) fs))) x = some (.ins C dx (putF "many" (.int (0 + 0)) fs)) := upd_same
    have et1 : (upd H x (.ins C dx (putF "many" (.int (0 + 0)) fs))) t = some (.tup []) := by rw [upd_ne (Ne.symm xt)]; exact ht
    have ee1 : (upd H x (.ins C dx (putF "many" (.int (0 + 0)) fs))) el = some (.dK []) := by rw [upd_ne (Ne.symm xe)]; exact he
    have ef1 : (upd H x (.ins C dx (putF "many" (.int (0 + 0)) fs))) fr = some (.dK []) := by rw [upd_ne (Ne.symm xf)]; exact hf
    have g2 : (putF "many" (.int (0 + 0)) fs).lookup ("elder" : Str) = some (.ref el) := by rw [lookup_putF, if_neg (by decide)]; exact l2
    have g3 : (putF "many" (.int (0 + 0)) fs).lookup ("far" : Str) = some (.ref fr) := by rw [lookup_putF, if_neg (by decide)]; exact l3
    generalize (upd H x (.ins C dx (putF "many" (.int (0 + 0)) fs))) = H1 at b1 ex1 et1 ee1 ef1 ⊢
    refine ⟨.ref t, rfl, t, [], rfl, .inr (sqt_of et1), .ref x, rfl, x, C, dx, _, _, rfl, ex1, T.cl, T.nE, g2, .str sA, rfl, el, _, rfl, .inl ⟨_, Sum.inr sA, ee1, rfl, smallM (n := 0) (by omega), rfl⟩, ?_⟩
    have b2 : But [x, el, fr] H (upd H1 el (.dK (putK [] (Sum.inr sA) (.int 0)))) := b1.trans (But.put (by simp))
    have ex2 : (upd H1 el (.dK (putK [] (Sum.inr sA) (.int 0)))) x = some (.ins C dx (putF "many" (.int (0 + 0)) fs)) := by rw [upd_ne xe]; exact ex1
    have et2 : (upd H1 el (.dK (putK [] (Sum.inr sA) (.int 0)))) t = some (.tup []) := by rw [upd_ne te]; exact et1
    have ef2 : (upd H1 el (.dK (putK [] (Sum.inr sA) (.int 0)))) fr = some (.dK []) := by rw [upd_ne (Ne.symm hne)]; exact ef1
    have ee2 : (upd H1 el (.dK (putK [] (Sum.inr sA) (.int 0)))) el = some (.dK (putK [] (Sum.inr sA) (.int 0))) := upd_same
    change tSeq (tAsg tDNewK (gName 3)) _ _ _ _
    generalize (upd H1 el (.dK (putK [] (Sum.inr sA) (.int 0)))) = H2 at b2 ex2 et2 ef2 ee2 ⊢
    refine rs_set ?_
    intro nd nnd
    have s3 := same_upd (o := .dK []) nnd
    have b3 : But [x, el, fr] H (upd H2 nd (.dK [])) := b2.trans (.of s3)
    have ex3 := s3 _ _ ex2
    have et3 := s3 _ _ et2
    have ef3 := s3 _ _ ef2
    have en3 : (upd H2 nd (.dK [])) nd = some (.dK []) := upd_same
    have nf : nd ≠ fr := fun z => by rw [z, ef2] at nnd; cases nnd
    have nx : nd ≠ x := fun z => by rw [z, ex2] at nnd; cases nnd
    have nt : nd ≠ t := fun z => by rw [z, et2] at nnd; cases nnd
    generalize (upd H2 nd (.dK [])) = H3 at b3 ex3 et3 ef3 en3 ⊢
    refine rs_tup t [] (fun Q1 q1 => ⟨_, rfl, q1⟩) (fun i σ' H' => σ' = [some (.ref x), some (.str sA), some (.ref t), some (.ref nd), none, none, none] ∧ H' = H3) ⟨rfl, rfl⟩ (fun i σ' H' _ ⟨_, e⟩ => by rw [e]; exact sqt_of et3) (fun i v σ' H' hx => by cases hx) ?_
    rintro σ' H' ⟨rfl, rfl⟩
    refine rs_lock0 nd en3 (fun _ _ q1 => ⟨_, rfl, q1⟩) ?_
    change sDPut _ _ _ _ _ _
    intro p np
    have s4 := same_upd (o := .dK []) np
    have npx : p ≠ x := fun z => by rw [z, ex3] at np; cases np
    have npf : p ≠ fr := fun z => by rw [z, ef3] at np; cases np
    have npn : p ≠ nd := fun z => by rw [z, en3] at np; cases np
    have npt : p ≠ t := fun z => by rw [z, et3] at np; cases np
    refine ⟨.str sA, rfl, Sum.inr sA, rfl, upd_same, ?_⟩
    rw [upd_upd]
    have s5 : Same H' (upd H' p (.dK [(Sum.inr sA, .int 0)])) := same_upd np
    refine ⟨.ref nd, rfl, nd, [], rfl, upd_same, s5 _ _ en3, Ne.symm npn, smallM (n := 0) (by omega), ?_⟩
    rw [upd_upd]
    have em : mergeK [((Sum.inr sA : Key), V.int 0)] [] = [(Sum.inr sA, .int 0)] := rfl
    rw [em]
    refine ⟨.ref x, rfl, x, C, dx, _, _, rfl, s5 _ _ ex3, T.cl, T.nF, g3, .str sA, rfl, fr, _, rfl, .inl ⟨_, Sum.inr sA, s5 _ _ ef3, rfl, smallM (n := 0) (by omega), rfl⟩, ?_⟩
    have b4 : But [x, el, fr] H (upd (upd H' p (.dK [(Sum.inr sA, .int 0)])) fr (.dK (putK [] (Sum.inr sA) (.ref p)))) := (b3.trans (.of s5)).trans (But.put (by simp))
    have et4 : (upd (upd H' p (.dK [(Sum.inr sA, .int 0)])) fr (.dK (putK [] (Sum.inr sA) (.ref p)))) t = some (.tup []) := by rw [upd_ne tf]; exact s5 _ _ et3
    generalize (upd (upd H' p (.dK [(Sum.inr sA, .int 0)])) fr (.dK (putK [] (Sum.inr sA) (.ref p)))) = H5 at b4 et4 ⊢
    refine ⟨.ref t, rfl, t, [], rfl, .inr (sqt_of et4), _, _, rfl, rfl, _, rfl, ?_⟩
    show if decide ((1 : Int) < ((0 : Nat) : Int)) = true then _ else _
    rw [if_neg (by decide)]
    exact q H5 b4
theorem scGoOn : FnScope ["self", "deed", "name"] ["self", "deed"] (defScope sGoOn) := ⟨rfl, rfl, rfl, by decide +kernel, rfl, by decide +kernel, by decide +kernel⟩
theorem ok_goon1 {f fC C : Addr} {fd fdC : FuncData} {k : Nat} (F : Fun K "go_on" "Scene.go_on" sGoOn f fd) (T : TxtS K mg C) (bs : mg "sorted" = none)
    (MC : Meth K C "_come" fC) (GC : FnOk P w K mg base CX0 k fC fdC ["self", "name", "ties"] (spComeS C)) (bC : Binds K fdC ["self", "name", "ties"] []) : FnOk P w K mg base CX0 (k + 1) f fd ["self", "deed"] (spGoOn1 C) := by
  refine F.ok scGoOn (fun vs H Q E h => ?_) (fun cdv A outer s H vs Q E hr h => ?_)
  · obtain ⟨x, q, lv, el, fr, rfl, _⟩ := h
    rfl
  · obtain ⟨x, qd, lv, el, fr, rfl, ⟨⟨dx, fs, hx, hl, f1, f2, f3, f4, f5, f6⟩, h1, h2, h3, hne⟩, ⟨tq, d1, d2⟩, q⟩ := h
    have hu64 := hr.units
    refine ⟨_, pss_one (ps_if (pt_cmpR op_eq (pe_ix ix_tup (pv 1) pe_int (fun _ _ => rfl)) pe_str (nomark _))
      (pss_cons (ps_fld (pv 0) (pe_callB (cr_sortT hu64) (by rfl) bs (by decide +kernel) (pa_cons (pe_lst (StX.pa_star (pe_fld (pv 0) rfl) (pa_cons (pe_ix ix_tup (pv 1) pe_int (fun _ _ => rfl)) pa_nil))) pa_nil)) rfl)
        (pss_one (ps_expr (pe_meth (pv 0) T.cl MC GC hr bC .nil pass0 (pa_cons (pe_ix ix_tup (pv 1) pe_int (fun _ _ => rfl)) (pa_cons (pe_ix ix_tup (pv 1) pe_int (fun _ _ => rfl)) pa_nil)))))) pss_never), ?_⟩
    refine ⟨.ref qd, rfl, qd, _, 0, .str sCome, rfl, rfl, sqt_of d1, atI_nat (j := 0) rfl, rfl, _, rfl, ?_⟩
    rw [show decide (V.str sCome = V.str (Str.ofString "come")) = true from decide_eq_true rfl]
    show if true = true then _ else _
    rw [if_pos rfl]
    refine ⟨.ref x, rfl, x, C, dx, fs, _, rfl, hx, T.cl, T.nL, f1, lv, _, rfl, .inr (sql_of h1), .ref qd, rfl, qd, _, 1, .str sA, rfl, rfl, sqt_of d1, atI_nat (j := 1) rfl, by show 1 ≤ sizeLine; decide, fun l nl => ?_⟩
    have s1 := same_upd (o := .lst ([] ++ [V.str sA])) nl
    refine ⟨l, [sA], rfl, sql_of upd_same, Nat.le_of_lt (smallM (by show 1 ≤ 100000; decide)), fun p np => ?_⟩
    have s2 := s1.trans (same_upd (o := .lst ((sortS [sA]).map V.str)) np)
    generalize (upd (upd H l (.lst ([] ++ [V.str sA]))) p (.lst ((sortS [sA]).map V.str))) = H2 at s2 ⊢
    refine ⟨.ref x, rfl, x, C, dx, fs, rfl, s2 _ _ hx, T.cl, T.nL, by omega, ?_⟩
    have l1 := length_putF "living" (V.ref p) fs
    have b3 : But [x, el, fr] H (upd H2 x (.ins C dx (putF "living" (.ref p) fs))) := (But.of s2).trans (But.put (by simp))
    have k3 : ∀ {b : Addr} {o : HO}, H b = some o → b ≠ x → (upd H2 x (.ins C dx (putF "living" (.ref p) fs))) b = some o := fun {b o} e n => by rw [upd_ne n]; exact s2 _ _ e
    have xe : el ≠ x := fun z => by rw [z, hx] at h2; cases h2
    have xf : fr ≠ x := fun z => by rw [z, hx] at h3; cases h3
    have xq : qd ≠ x := fun z => by rw [z, hx] at d1; cases d1
    have xt : tq ≠ x := fun z => by rw [z, hx] at d2; cases d2
    have g : ∀ (m : Str), m ≠ "living" → (putF "living" (.ref p) fs).lookup m = fs.lookup m := fun m hm => by rw [lookup_putF, if_neg hm]
    have e2 := k3 h2 xe
    have e3 := k3 h3 xf
    have e4 := k3 d1 xq
    have e5 := k3 d2 xt
    have ex : (upd H2 x (.ins C dx (putF "living" (.ref p) fs))) x = some (.ins C dx (putF "living" (.ref p) fs)) := upd_same
    generalize (upd H2 x (.ins C dx (putF "living" (.ref p) fs))) = H3 at b3 e2 e3 e4 e5 ex ⊢
    refine ⟨.ref x, rfl, x, dx, _, rfl, ex, by rw [g _ (by decide)]; exact f6, .ref qd, rfl, qd, _, 1, .str sA, rfl, rfl, sqt_of e4, atI_nat (j := 1) rfl, .ref qd, rfl, qd, _, 2, .ref tq, rfl, rfl, sqt_of e4, atI_nat (j := 2) rfl, ?_⟩
    exact ⟨x, tq, el, fr, dx, _, rfl, ex, by omega, by rw [g _ (by decide)]; exact f2, by rw [g _ (by decide)]; exact f3, by rw [g _ (by decide)]; exact f4, e5, e2, e3, hne, fun H4 b4 => q H4 (b3.trans b4)⟩
end
end Hw

set_option Elab.async false
set_option linter.all false
set_option maxRecDepth 100000
set_option maxHeartbeats 4000000
namespace Hw
open PySem L2 PyProof.Rows
theorem his_deeds {C : Addr} {H : Hp} {x : Addr} (w : HistO C H x [.come sA []]) : ∃ dx fs dp q t, H x = some (.ins C dx fs) ∧ fs.lookup ("deeds" : Str) = some (.ref dp) ∧ H dp = some (.tup [.ref q]) ∧ H q = some (.tup [.str sCome, .str sA, .ref t]) ∧ H t = some (.tup []) := by
  obtain ⟨⟨dx, dp, lp, ep, fs, h1, h2, h3, h4, h5, h6, ⟨qs, h7, h7'⟩, h8, h9⟩, hH, hl⟩ := w
  cases h7' with
  | cons a t =>
    cases t
    obtain ⟨tq, d1, d2⟩ := a
    exact ⟨dx, fs, dp, _, tq, h1, h4, h7, d1, d2⟩
def spPlayed1 (C : Addr) : Sp := fun vs H Q _ => ∃ (z : Str) (x : Addr), vs = [.str z, .ref x] ∧ z ∈ rulesL ∧ HistO C H x [.come sA []] ∧ ∀ p r H', Same H H' → H' p = some (.tup [.ref r]) → H' r = some (.tup []) → Q (.ref p) H'
def spMayB : Sp := fun vs H Q _ => ∃ (z y : Str) (q t : Addr), vs = [.str z, .str y, .ref q] ∧ H q = some (.tup [.str sCome, .str sA, .ref t]) ∧ H t = some (.tup []) ∧ Q (.bl false) H
section
variable {P : Program} {w : World} {K : PySem.W.Frag} {mg : Str → Option Value} {base : Heap}
theorem scPlayed : FnScope ["rule", "history", "ties", "rows", "deed", "tie"] ["rule", "history"] (defScope sPlayed) := ⟨rfl, rfl, rfl, by decide +kernel, rfl, by decide +kernel, by decide +kernel⟩
theorem ok_played1 {f fR C cR : Addr} {fd fdR : FuncData} {k : Nat} (F : Fun K "played_by" "played_by" sPlayed f fd) (T : TxtH K mg C) (bs : mg "sorted" = none) (bt : mg "tuple" = none)
    (GR : FnOk P w K mg base (L2N.CX P w) k fR fdR ["value"] (spChkR cR)) (gR : mg "check_rule" = some (.ref fR)) (kR : PySem.W.keepIn K (.ref fR) = true) (bR : Binds K fdR ["value"] []) :
    FnOk P w K mg base CX0 (k + 1) f fd ["rule", "history"] (spPlayed1 C) := by
  refine F.ok scPlayed (fun vs H Q E h => ?_) (fun cdv A outer s H vs Q E hr h => ?_)
  · obtain ⟨z, x, rfl, _⟩ := h
    rfl
  · obtain ⟨z, x, rfl, hz, wb, q⟩ := h
    have hu64 := hr.units
    obtain ⟨dx, fs, dp, qd, t, h1, h2, h3, h4, h5⟩ := his_deeds wb
    refine ⟨_, pss_cons (ps_expr (pe_call GR hr (by rfl) gR kR bR .nil passLN (pa_cons (pv 0) pa_nil)))
      (pss_cons (ps_set (i := 2) scPlayed.nd rfl (.inl rfl) (pe_lst pa_nil))
      (pss_cons (ps_set (i := 3) scPlayed.nd rfl (.inl rfl) (pe_lst pa_nil))
      (pss_cons (ps_for PassesOwn.never rfl (pi_tup (pe_fld (pv 1) rfl)) (pg_name (i := 4) scPlayed.nd rfl (.inr rfl))
        (pss_cons (ps_if (pt_cmpR op_eq (pe_ix ix_tup (pv 4) pe_int (fun _ _ => rfl)) pe_str (nomark _))
          (pss_one (ps_set (i := 2) scPlayed.nd rfl (.inl rfl) (pe_callB (cr_sortT hu64) (by rfl) bs (by decide +kernel) (pa_cons (pe_lst (StX.pa_star (pv 2) (StX.pa_star
            (pe_lc (own := [("tie", 5)]) (g := gName 5) (tt := tYes) (te := fun _ _ _ => False) rfl scPlayed.nd (pi_tup (pe_ix ix_tup (pv 4) pe_int (fun _ _ => rfl))) (blkOk_by (N := ["rule", "history", "ties", "rows", "deed", "tie"]) (sc := defScope sPlayed) (by decide +kernel))
              (fun _ _ _ _ _ => pg_name (i := 5) scPlayed.nd rfl (Or.inl rfl)) (fun _ _ _ _ _ => pts_nil) (fun _ _ _ _ _ => pe_never)) pa_nil))) pa_nil)))) pss_never)
        (pss_one (ps_expr (pe_bm PySem.F.plainAttrs_list PySem.F.slot_list_append PySem.F.type_list_append mt_append (pv 3) (pa_cons (pe_callTy call_tuple_of (by rfl) bt PyProof.Rows.boot_tuple (pa_cons (pv 2) pa_nil)) pa_nil))))))
      (pss_one (ps_ret (pe_callTy call_tuple_of (by rfl) bt PyProof.Rows.boot_tuple (pa_cons (pv 3) pa_nil))))))), ?_⟩
    refine rs_expr ?_
    refine ⟨.str z, rfl, .str z, x, .str z, rfl, .flat rfl, fun _ => ?_, fun e => ?_⟩
    · refine rs_set ?_
      refine ⟨Nat.zero_le _, fun l nl => ?_⟩
      refine rs_set ?_
      refine ⟨Nat.zero_le _, fun m nm => ?_⟩
      have nml : m ≠ l := fun z => by rw [z, upd_same] at nm; cases nm
      have s1 := (same_upd (o := .lst []) nl).trans (same_upd (o := .lst []) nm)
      have el : (upd (upd H l (.lst [])) m (.lst [])) l = some (.lst []) := by rw [upd_ne (Ne.symm nml)]; exact upd_same
      have em : (upd (upd H l (.lst [])) m (.lst [])) m = some (.lst []) := upd_same
      have nm0 : H m = none := by rw [upd_ne nml] at nm; exact nm
      generalize (upd (upd H l (.lst [])) m (.lst [])) = H1 at s1 el em ⊢
      refine rs_tup dp [.ref qd] (fun Q1 q1 => ⟨.ref x, rfl, x, C, dx, _, _, rfl, s1 _ _ h1, T.cl, T.nD, h2, q1⟩) (fun i σ' H' => ∃ l o4 rs, σ' = [some (.str z), some (.ref x), some (.ref l), some (.ref m), o4, none] ∧ Same H H' ∧ H' l = some (.lst []) ∧ l ≠ m ∧ H' m = some (.lst (rs.map V.ref)) ∧ rs.length = i ∧ ∀ r ∈ rs, H' r = some (.tup []))
        ⟨l, none, [], rfl, s1, el, Ne.symm nml, em, rfl, fun _ y => nomatch y⟩ (fun i σ' H' _ ⟨_, _, _, _, sx, _⟩ => sqt_of (sx _ _ h3)) ?_ ?_
      · rintro i v σ' H' hx ⟨l', o4, rs, rfl, sx, e1, n1, e2, len, hrs⟩
        obtain ⟨hi, rfl⟩ : i = 0 ∧ v = .ref qd := by
          cases i with
          | zero => simp at hx; exact ⟨rfl, hx.symm⟩
          | succ i => simp at hx
        subst hi
        obtain rfl : rs = [] := List.length_eq_zero_iff.mp len
        refine r_gname ?_
        refine ⟨.ref qd, rfl, qd, _, 0, .str sCome, rfl, rfl, sqt_of (sx _ _ h4), atI_nat (j := 0) rfl, rfl, _, rfl, ?_⟩
        rw [show decide (V.str sCome = V.str (Str.ofString "come")) = true from decide_eq_true rfl]
        show if true = true then _ else _
        rw [if_pos rfl]
        refine ⟨.ref l', rfl, l', [], rfl, .inr (sql_of e1), .ref qd, rfl, qd, _, 2, .ref t, rfl, rfl, sqt_of (sx _ _ h4), atI_nat (j := 2) rfl, t, rfl, ⟨_, sqt_of (sx _ _ h5)⟩, fun D nD => lc_tup (K := K) (xs := []) (te := fun _ _ _ => False) (g := gName 5) (tt := tYes) (fun i H2 => H2 = upd H' D (.lst [])) rfl (fun i H2 _ e => by rw [e]; exact sqt_of ((same_upd nD) _ _ (sx _ _ h5))) (fun i y H2 hy => by cases hy) ?_⟩
        rintro H2 rfl
        have s2 := same_upd (o := .lst []) nD
        refine ⟨D, [], rfl, .inr (sql_of upd_same), by show 0 ≤ sizeLine; exact Nat.zero_le _, fun p np => ?_⟩
        have s3 := s2.trans (same_upd (o := .lst ([] ++ ([] ++ []))) np)
        refine ⟨p, [], rfl, sql_of upd_same, Nat.zero_le _, fun p2 np2 => ?_⟩
        have s4 := s3.trans (same_upd (o := .lst ((sortS []).map V.str)) np2)
        have ep2 : (upd (upd (upd H' D (.lst [])) p (.lst ([] ++ ([] ++ [])))) p2 (.lst ((sortS []).map V.str))) p2 = some (.lst []) := by rw [upd_same, List.perm_nil.mp (sortS_perm [])]; rfl
        have nm2 : p2 ≠ m := fun y => by
          rw [y] at np2
          rw [s3 _ _ e2] at np2; cases np2
        generalize (upd (upd (upd H' D (.lst [])) p (.lst ([] ++ ([] ++ [])))) p2 (.lst ((sortS []).map V.str))) = H3 at s4 ep2 ⊢
        refine ⟨.ref m, rfl, .inl ⟨rfl, _, sql_of (s4 _ _ e2)⟩, .ref p2, rfl, p2, [], rfl, .inl ⟨sql_of ep2, fun p3 np3 => ?_⟩⟩
        have s5 := s4.trans (same_upd (o := .tup []) np3)
        have nm3 : p3 ≠ m := fun y => by
          rw [y] at np3
          rw [s4 _ _ e2] at np3; cases np3
        refine ⟨m, _, _, rfl, rfl, s5 _ _ e2, smallM (by show 0 ≤ 100000; decide), ?_⟩
        refine ⟨p2, _, [p3], rfl, fun b o e => ?_, ?_, nm2, ?_, rfl, fun r hr' => ?_⟩
        · rw [upd_ne (ne_of_none e nm0)]; exact s5 _ _ (sx _ _ e)
        · rw [upd_ne nm2]; exact (same_upd np3) _ _ ep2
        · rw [upd_same]; rfl
        · rw [List.mem_singleton.mp hr', upd_ne nm3]; exact upd_same
      · rintro σ' H' ⟨l', o4, rs, rfl, sx, e1, n1, e2, len, hrs⟩
        obtain ⟨r, rfl⟩ : ∃ r, rs = [r] := by
          cases rs with
          | nil => cases len
          | cons r rs =>
            cases rs with
            | nil => exact ⟨r, rfl⟩
            | cons _ _ => cases len
        refine ⟨.ref m, rfl, m, _, rfl, .inl ⟨sql_of e2, fun p np => ?_⟩⟩
        have s2 := same_upd (o := .tup ([r].map V.ref)) np
        exact q p r _ (sx.trans s2) upd_same (s2 _ _ (hrs r (by simp)))
    · have : isRuleD (.str z) = true := decide_eq_true hz
      rw [this] at e; cases e
theorem scMayB : FnScope ["rule", "kind", "deed"] ["rule", "kind", "deed"] (defScope sMayB) := ⟨rfl, rfl, rfl, by decide +kernel, rfl, by decide +kernel, by decide +kernel⟩
theorem ok_mayb {f : Addr} {fd : FuncData} {k : Nat} (F : Fun K "may_break" "may_break" sMayB f fd) (B : Blt mg) : FnOk P w K mg base CX0 (k + 1) f fd ["rule", "kind", "deed"] spMayB := by
  refine F.ok scMayB (fun vs H Q E h => ?_) (fun cdv A outer s H vs Q E hr h => ?_)
  · obtain ⟨z, y, q, t, rfl, _⟩ := h
    rfl
  · obtain ⟨z, y, qd, t, rfl, h4, h5, q⟩ := h
    refine ⟨_, pss_cons (ps_if (pt_cmpR op_eq (pe_ix ix_tup (pv 2) pe_int (fun _ _ => rfl)) pe_str (nomark _))
      (pss_one (ps_ret (pe_and (pe_cmpR op_eq (pv 0) pe_str (nomark _)) (pe_and (pe_cmpR op_eq (pv 1) pe_str (nomark _)) (pe_one (pe_cmpR op_gt (pe_callB call_len_seq (by rfl) B.len PySem.boot_len (pa_cons (pe_ix ix_tup (pv 2) pe_int (fun _ _ => rfl)) pa_nil)) pe_int (nomark _))))))) pss_nil) pss_never, ?_⟩
    refine rs_ifR ?_
    refine ⟨.ref qd, rfl, qd, _, 0, .str sCome, rfl, rfl, sqt_of h4, atI_nat (j := 0) rfl, rfl, _, rfl, ?_⟩
    rw [show decide (V.str sCome = V.str (Str.ofString "come")) = true from decide_eq_true rfl]
    show if true = true then _ else _
    rw [if_pos rfl]
    refine ⟨.str z, rfl, rfl, _, rfl, ?_⟩
    split
    · refine ⟨.str y, rfl, rfl, _, rfl, ?_⟩
      split
      · exact ⟨.ref qd, rfl, qd, _, 2, .ref t, rfl, rfl, sqt_of h4, atI_nat (j := 2) rfl, t, [], rfl, .inr (sqt_of h5), _, _, rfl, rfl, q⟩
      · exact q
    · exact q
theorem ScO.keep {C : Addr} {H H' : Hp} {x lv el fr : Addr} (w : ScO C H x lv el fr) (s : Same H H') : ScO C H' x lv el fr := by
  obtain ⟨⟨dx, fs, h1, h2⟩, h3, h4, h5, h6⟩ := w
  exact ⟨⟨dx, fs, s _ _ h1, h2⟩, s _ _ h3, s _ _ h4, s _ _ h5, h6⟩
theorem scBreaks : FnScope ["rule", "kind", "goal", "history", "scene", "ahead", "deed", "row"] ["rule", "kind", "goal", "history"] (defScope sBreaks) := ⟨rfl, rfl, rfl, by decide +kernel, rfl, by decide +kernel, by decide +kernel⟩
theorem ok_breaks {f fI fG fP fM C CS : Addr} {fd fdI fdG fdP fdM : FuncData} {k j : Nat} (hj : j + 1 ≤ k) (F : Fun K "breaks" "breaks" sBreaks f fd) (T : TxtH K mg C) (TS : TxtS K mg CS) (bz : mg "zip" = none) (M : Mk K CS fI)
    (GI : FnOk P w K mg base CX0 j fI fdI ["self"] (spScI CS)) (bI : Binds K fdI ["self"] []) (MG : Meth K CS "go_on" fG) (GG : FnOk P w K mg base CX0 k fG fdG ["self", "deed"] (spGoOn1 CS)) (bG : Binds K fdG ["self", "deed"] [])
    (GP : FnOk P w K mg base CX0 k fP fdP ["rule", "history"] (spPlayed1 C)) (gP : mg "played_by" = some (.ref fP)) (kP : PySem.W.keepIn K (.ref fP) = true) (bP : Binds K fdP ["rule", "history"] [])
    (GM : FnOk P w K mg base CX0 k fM fdM ["rule", "kind", "deed"] spMayB) (gM : mg "may_break" = some (.ref fM)) (kM : PySem.W.keepIn K (.ref fM) = true) (bM : Binds K fdM ["rule", "kind", "deed"] []) :
    FnOk P w K mg base CX0 (k + 1) f fd ["rule", "kind", "goal", "history"] (spBreaks C) := by
  refine F.ok scBreaks (fun vs H Q E h => ?_) (fun cdv A outer s H vs Q E hr h => ?_)
  · obtain ⟨z, y, g, x, rfl, _⟩ := h
    rfl
  · obtain ⟨z, y, g, x, rfl, hz, wb, q⟩ := h
    obtain ⟨dx, fs, dp, qd, t, h1, h2, h3, h4, h5⟩ := his_deeds wb
    refine ⟨_, pss_cons (ps_set (i := 4) scBreaks.nd rfl (.inl rfl) (pe_make0 M GI (hr.mono hj) (by rfl) TS.mS bI .nil pass0))
      (pss_cons (ps_set (i := 5) scBreaks.nd rfl (.inl rfl) (pe_tup pa_nil))
      (pss_cons (ps_for PassesOwn.never rfl (RZ.pi_zipA (by rfl) bz (pa_cons (pe_fld (pv 3) rfl) (pa_cons (pe_call GP hr (by rfl) gP kP bP .nil pass0 (pa_cons (pv 0) (pa_cons (pv 3) pa_nil))) pa_nil)))
          (pg_tup rfl (pgs_cons (pg_name (i := 6) scBreaks.nd rfl (Or.inl rfl)) (pgs_cons (pg_name (i := 7) scBreaks.nd rfl (Or.inl rfl)) pgs_nil)))
        (pss_cons (ps_expr (pe_meth (pv 4) TS.cl MG GG hr bG .nil pass0 (pa_cons (pv 6) pa_nil)))
        (pss_cons (ps_if (PW.pt (pw_and (pt_val (pe_call GM hr (by rfl) gM kM bM .nil pass0 (pa_cons (pv 0) (pa_cons (pv 1) (pa_cons (pv 6) pa_nil))))) (pw_and1 pt_never))) pss_never pss_nil)
        (pss_one (ps_set (i := 5) scBreaks.nd rfl (.inl rfl) (pv 7))))))
      (pss_one (ps_ret pe_bl)))), ?_⟩
    refine rs_set ?_
    intro sc dsc nsc ndsc hne
    have s0 : Same H (upd (upd H dsc (.own sc)) sc (.ins CS dsc [])) := fun b o e => by rw [upd_ne (ne_of_none e nsc), upd_ne (ne_of_none e ndsc)]; exact e
    refine ⟨sc, dsc, rfl, upd_same, fun lv el fr H1 wS sx1 n1 n2 n3 => ⟨rfl, ?_⟩⟩
    have s1 : Same H H1 := fun b o e => sx1 b o (ne_of_none e nsc) (s0 b o e)
    have nel : H el = none := by
      cases e : H el with
      | none => rfl
      | some o => rw [s0 _ _ e] at n2; cases n2
    have nfr : H fr = none := by
      cases e : H fr with
      | none => rfl
      | some o => rw [s0 _ _ e] at n3; cases n3
    clear sx1 n1 n2 n3 s0
    refine rs_set ?_
    refine ⟨Nat.zero_le _, fun ah nah => ?_⟩
    have s2 := s1.trans (same_upd (o := .tup []) nah)
    have wS2 := wS.keep (same_upd (o := .tup []) nah)
    generalize (upd H1 ah (.tup [])) = H2 at s2 wS2 ⊢
    refine ⟨.ref x, rfl, x, C, dx, _, _, rfl, s2 _ _ h1, T.cl, T.nD, h2, .str z, rfl, .ref x, rfl, z, x, rfl, hz, wb.keep s2, fun p r H3 s3 e1 e2 => ?_⟩
    have s23 := s2.trans s3
    refine ⟨dp, p, [.ref qd], [.ref r], rfl, .inr ⟨sqt_of (s23 _ _ h3), sqt_of e1, ?_⟩⟩
    refine for_it (walk_zipT (n := 1) rfl) (fun i σ' H' => Same H H' ∧ (∃ o5 o6 o7, σ' = [some (.str z), some (.str y), some (.int g), some (.ref x), some (.ref sc), o5, o6, o7]) ∧ (i = 0 → Same H3 H') ∧ H' p = some (.tup [.ref r])) ⟨s23, ⟨_, _, _, rfl⟩, fun _ => Same.refl _, e1⟩ (fun i σ' H' _ w => ⟨sqt_of (w.1 _ _ h3), sqt_of w.2.2.2⟩) ?_ ?_
    · rintro i v σ' H' H'' hi ⟨sx, ⟨o5, o6, o7, rfl⟩, s3', ep⟩ ⟨T', x1, x2, rfl, nT, rfl, g1, g2⟩
      obtain rfl : i = 0 := by omega
      obtain rfl : V.ref qd = x1 := Option.some.inj g1
      obtain rfl : V.ref r = x2 := Option.some.inj g2
      have s4 := s3' rfl
      have sT := same_upd (o := .tup [.ref qd, .ref r]) nT
      refine g2_of (sqt_of upd_same) ?_
      have s5 := (s3.trans s4).trans sT
      have wS5 := wS2.keep s5
      have s05 := sx.trans sT
      have ep5 := sT _ _ ep
      generalize (upd H' T' (.tup [.ref qd, .ref r])) = H5 at s5 wS5 s05 ep5 ⊢
      refine rs_expr ?_
      obtain ⟨⟨dxs, fss, k1, k2, k3, k4, k5, k6, k7, k8⟩, k9, k10, k11, k12⟩ := id wS5
      refine ⟨.ref sc, rfl, sc, dxs, fss, rfl, k1, k7, .ref qd, rfl, sc, qd, lv, el, fr, rfl, wS5, ⟨t, s05 _ _ h4, s05 _ _ h5⟩, fun H6 b6 => ?_⟩
      have s06 : Same H H6 := fun b o e => b6 b o (fun hm => by
        rcases List.mem_cons.mp hm with rfl | hm
        · rw [nsc] at e; cases e
        · rcases List.mem_cons.mp hm with rfl | hm
          · rw [nel] at e; cases e
          · rw [List.mem_singleton.mp hm, nfr] at e; cases e) (s05 _ _ e)
      have ep6 : H6 p = some (.tup [.ref r]) := b6 p _ (fun hm => by
        rcases List.mem_cons.mp hm with rfl | hm
        · rw [k1] at ep5; cases ep5
        · rcases List.mem_cons.mp hm with rfl | hm
          · rw [k10] at ep5; cases ep5
          · rw [List.mem_singleton.mp hm, k11] at ep5; cases ep5) ep5
      refine rs_no ?_
      refine ⟨.str z, rfl, .str y, rfl, .ref qd, rfl, z, y, qd, t, rfl, s06 _ _ h4, s06 _ _ h5, false, rfl, ?_⟩
      exact ⟨.ref r, rfl, s06, ⟨_, _, _, rfl⟩, fun e => (by cases e), ep6⟩
    · rintro σ' H' ⟨sx, _, _, _⟩
      exact q _ H' sx
end
end Hw

set_option Elab.async false
set_option linter.all false
set_option maxRecDepth 100000
set_option maxHeartbeats 2000000
namespace Hw
open PySem PySem.Spec PyProof.Rows L2
/-! xs != [], xs == [], whatever stands in xs -/
def rNilL (neg : Bool) (K : PySem.W.Frag) : R2 := fun x y H Q => ∃ (a b : Addr) (xs : List V), x = .ref a ∧ y = .ref b ∧ SqL K H a xs ∧ SqL K H b [] ∧ Q (.bl (if neg then !xs.isEmpty else xs.isEmpty)) H
section
variable {X : Cx}
theorem op_neNilL (hu : X.A.units < cLine) : OpR X (compareOp .NotEq) (rNilL true X.K) := by
  intro pins s σ H x y v u Q I rx ry h
  obtain ⟨a, b, xs, rfl, rfl, ha, hb, q⟩ := h
  cases rx
  cases ry
  obtain ⟨its, rv, ⟨⟨c1, d1, D1, s1⟩, n1, o1, e1, m1, f1⟩, _⟩ := I.list ha
  obtain ⟨its2, rv2, ⟨⟨c2, d2, D2, s2⟩, n2, o2, e2, m2, f2⟩, _⟩ := I.list hb
  simp only at e1 f1 e2 f2
  subst e1 f1 e2 f2
  have l1 := rv.length
  have l2 := rv2.length
  cases xs with
  | nil =>
    exact richCompare_meets_room (op := .NotEq) ⟨_, o1, rfl⟩ ⟨_, o2, rfl⟩ F.slot_list_ne F.entry_list_ne (F.args_list_ne_2 _ _) (SeqAt.list_neAt a b its.toArray its2.toArray _ _ d1 d2 s1 s2 (by simp only [List.size_toArray]; rw [← l1, ← l2]) (fun _ => true))
      ⟨o1, o2, fun j h1 _ => absurd h1 (by simp only [List.size_toArray]; rw [← l1]; exact Nat.not_lt_zero _), show _ ≠ _ ∧ _ from ⟨(fun z => nomatch z), .bl false, H, I, by
        have e : its = [] := List.length_eq_zero_iff.mp (by rw [← l1]; rfl)
        rw [e]; rfl, q⟩⟩ hu
  | cons x xs =>
    exact richCompare_meets_room (op := .NotEq) ⟨_, o1, rfl⟩ ⟨_, o2, rfl⟩ F.slot_list_ne F.entry_list_ne (F.args_list_ne_2 _ _) (SeqAt.list_ne_lengthsAt a b its.toArray its2.toArray _ _ d1 d2 s1 s2 (by simp only [List.size_toArray]; rw [← l1, ← l2]; rfl))
      ⟨o1, o2, show _ ≠ _ ∧ _ from ⟨(fun z => nomatch z), .bl true, H, I, rfl, q⟩⟩ hu
theorem op_eqNilL (hu : X.A.units < cLine) : OpR X (compareOp .Eq) (rNilL false X.K) := by
  intro pins s σ H x y v u Q I rx ry h
  obtain ⟨a, b, xs, rfl, rfl, ha, hb, q⟩ := h
  cases rx
  cases ry
  obtain ⟨its, rv, pl, _⟩ := I.list ha
  obtain ⟨its2, rv2, pl2, _⟩ := I.list hb
  have l1 := rv.length
  have l2 := rv2.length
  cases xs with
  | nil =>
    have e : its = [] := List.length_eq_zero_iff.mp (by rw [← l1]; rfl)
    refine SeqAt.eq_listAt (e := fun _ => true) pl.isList pl2.isList (by simp only [List.size_toArray]; rw [← l1, ← l2]) hu (fun j h1 _ => absurd h1 (by simp only [List.size_toArray]; rw [← l1]; exact Nat.not_lt_zero _)) ⟨.bl true, H, I, ?_, q⟩
    rw [e]; rfl
  | cons x xs => exact SeqAt.eq_list_lengthsAt pl.isList pl2.isList (by simp only [List.size_toArray]; rw [← l1, ← l2]; rfl) hu ⟨.bl false, H, I, rfl, q⟩
end
end Hw

set_option Elab.async false
set_option linter.all false
set_option maxRecDepth 100000
set_option maxHeartbeats 4000000
namespace Hw
open PySem PySem.Spec L2 PyProof PyProof.Rows
abbrev sHeard : Stmt := topS 61
abbrev sTold : Stmt := topS 62
theorem scHeard : FnScope ["call", "caught", "words", "word"] ["call"] (defScope sHeard) := ⟨rfl, rfl, rfl, by decide +kernel, rfl, by decide +kernel, by decide +kernel⟩
theorem ok_heard {P : Program} {w : World} {K : PySem.W.Frag} {mg : Str → Option Value} {base : Heap} {f : Addr} {fd : FuncData} {k : Nat} {CS : Addr} {c : Nat → Addr} (F : L2.Fun K "_law_heard" "_law_heard" sHeard f fd) (bi : mg "isinstance" = none)
    (me : mg "HealError" = some (.ref CS)) (m1 : mg "BadRule" = some (.ref (c 0))) (m2 : mg "BadKind" = some (.ref (c 1))) (m3 : mg "BadNumber" = some (.ref (c 2))) :
    FnGL P w K mg base CX0 (k + 2) f fd ["call"] (spHeard3 P w K mg base k CS (c 0) (c 1) (c 2) "rule" "kind" "number" "other") :=
  heard3_ok F scHeard rfl (by decide +kernel) (by decide +kernel) (by decide +kernel) (by decide +kernel) (by decide +kernel) (by decide +kernel) (by decide +kernel) (by decide +kernel) me bi m1 m2 m3 (by decide) (by decide) (by decide) (by decide) (by decide) (by decide) (by decide)
    (blkOk_by (N := ["call", "caught", "words", "word"]) (sc := defScope sHeard) (by decide +kernel)) (fun _ _ _ _ => .inr (.inl rfl)) (fun _ _ _ _ => rfl)
/-- a part: is it fine, its word, its value -/
def PartAt (H : Hp) (q : Addr) (b : Bool) (z : Str) (v : V) : Prop := H q = some (.tup [.bl b, .str z, v])
def wordK : Nat → Str
  | 0 => "rule"
  | 1 => "kind"
  | _ => "number"
/-- the first of three that is not fine -/
def firstBad (b0 b1 b2 : Bool) : Option Nat := if b0 = false then some 0 else if b1 = false then some 1 else if b2 = false then some 2 else none
def badL (q0 q1 q2 : Addr) (b0 b1 b2 : Bool) (n : Nat) : List V := (([(q0, b0), (q1, b1), (q2, b2)].take n).filter fun x => !x.2).map fun x => V.ref x.1
theorem badL_none {q0 q1 q2 : Addr} {b0 b1 b2 : Bool} (h : firstBad b0 b1 b2 = none) : badL q0 q1 q2 b0 b1 b2 3 = [] := by
  cases b0 <;> cases b1 <;> cases b2 <;> first | rfl | cases h
theorem badL_some {q0 q1 q2 : Addr} {b0 b1 b2 : Bool} {i : Nat} (h : firstBad b0 b1 b2 = some i) : ∃ q rest, [q0, q1, q2][i]? = some q ∧ badL q0 q1 q2 b0 b1 b2 3 = .ref q :: rest := by
  cases b0 <;> cases b1 <;> cases b2 <;> first | (cases h; exact ⟨_, _, rfl, rfl⟩) | cases h
theorem badL_len (q0 q1 q2 : Addr) (b0 b1 b2 : Bool) (n : Nat) : (badL q0 q1 q2 b0 b1 b2 n).length ≤ 3 := by
  unfold badL
  rw [List.length_map]
  refine Nat.le_trans (List.length_filter_le _ _) ?_
  rw [List.length_take]
  exact Nat.min_le_right _ _
def spTold3 (P : Program) (w : World) (K : PySem.W.Frag) (mg : Str → Option Value) (base : Heap) (k : Nat) (CS : Addr) (c : Nat → Addr) : SpL := fun fs h vs H Q _ =>
  ∃ (a l : Addr) (G : Hp → Prop) (tl : XK → Hp → VK → Prop) (q0 q1 q2 : Addr) (b0 b1 b2 : Bool) (v0 v1 v2 : V) (d0 d1 d2 : PyData) (p0 : Addr), vs = [.ref a, .ref l] ∧ Act (L2N.CX P w) P w K mg base k a fs H h G tl ∧ (∀ H', Same H H' → G H') ∧
    H l = some (.lst [.ref q0, .ref q1, .ref q2]) ∧ PartAt H q0 b0 (wordK 0) v0 ∧ PartAt H q1 b1 (wordK 1) v1 ∧ PartAt H q2 b2 (wordK 2) v2 ∧ Dx p0 H v0 d0 ∧ Dx p0 H v1 d1 ∧ Dx p0 H v2 d2 ∧ fineD d0 = true ∧ fineD d1 = true ∧ fineD d2 = true ∧
    (∀ (H' : Hp) (E1 : XK) (Q1 : VK), Same H H' → (firstBad b0 b1 b2 = none → ∀ v H2, Same H' H2 → Q1 v H2) →
      (∀ i, firstBad b0 b1 b2 = some i → ∀ v, [v0, v1, v2][i]? = some v → ∀ dd H2, Same H' H2 → H2 dd = none → E1 (.ref (c i)) (some dd) (upd H2 dd (.xd [("value", v)]))) → tl E1 H' Q1) ∧
    ∀ H', Same H H' → Q (.bl true) H'
section
variable {P : Program} {w : World} {K : PySem.W.Frag} {mg : Str → Option Value} {base : Heap}
theorem scTold : FnScope ["call", "parts", "bad", "told", "part"] ["call", "parts"] (defScope sTold) := ⟨rfl, rfl, rfl, by decide +kernel, rfl, by decide +kernel, by decide +kernel⟩
/-- the classes of the three errors -/
structure Cls3 (K : PySem.W.Frag) (CS : Addr) (c : Nat → Addr) : Prop where
  ct : ∀ i, i < 3 → ∀ dd, Caught K CS (.ref (c i)) (some dd) (c i) dd
  kit : ∀ i j, i < 3 → j < 3 → PySem.W.kitOne K (.ref (c i)) (.ref (c j)) = some (decide (i = j))
theorem firstBad_lt {b0 b1 b2 : Bool} {i : Nat} (h : firstBad b0 b1 b2 = some i) : i < 3 := by
  cases b0 <;> cases b1 <;> cases b2 <;> first | (cases h; decide) | cases h
theorem pick_word {i : Nat} (h : i < 3) : pick3 "rule" "kind" "number" "other" (decide (i = 0)) (decide (i = 1)) (decide (i = 2)) = wordK i := by
  match i, h with
  | 0, _ => rfl
  | 1, _ => rfl
  | 2, _ => rfl
theorem ok_told3 {f fH CS : Addr} {c : Nat → Addr} {fd fdH : FuncData} {k m : Nat} (hm : m + 1 ≤ k) (F : L2.Fun K "_law_is_told" "_law_is_told" sTold f fd) (br : mg "repr" = none) (C3 : Cls3 K CS c)
    (GH : FnGL P w K mg base CX0 k fH fdH ["call"] (spHeard3 P w K mg base m CS (c 0) (c 1) (c 2) "rule" "kind" "number" "other")) (gH : mg "_law_heard" = some (.ref fH)) (kH : PySem.W.keepIn K (.ref fH) = true) (bH : Binds K fdH ["call"] []) :
    FnGL P w K mg base CX0 (k + 1) f fd ["call", "parts"] (spTold3 P w K mg base m CS c) := by
  refine funGL F scTold (fun fs h vs H Q E hh => ?_) (fun cdv A outer s H vs Q E hr hh => ?_)
  · obtain ⟨_, _, _, _, _, _, _, _, _, _, _, _, _, _, _, _, _, rfl, _⟩ := hh
    rfl
  · obtain ⟨a, l, G, tl, q0, q1, q2, b0, b1, b2, v0, v1, v2, d0, d1, d2, p0, rfl, ac, hG, hl, h0, h1, h2, x0, x1, x2, f0, f1, f2, ht, q⟩ := hh
    have hu64 := hr.r.units
    have hu : (A.deeper (envOfC "_law_is_told" (defScope sTold) s.heap.objs.size f cdv)).units < cLine := by omega
    have hun := hr.r.un
    have h100 : (A.deeper (envOfC "_law_is_told" (defScope sTold) s.heap.objs.size f cdv)).units + 100 < cLine := by omega
    refine ⟨_, pss_cons (ps_setLc (i := 2) (own := [("part", 4)]) (g := gName 4) (tt := tNot (tTest (tOp (rIxT K) (tVar 4) (tC (.int 0))))) (te := tVar 4) rfl scTold.nd rfl rfl (sw_true rfl rfl rfl (by decide +kernel)) (pi_list (pv 1))
        (blkOk_by (N := ["call", "parts", "bad", "told", "part"]) (sc := defScope sTold) (by decide +kernel)) (fun _ _ _ _ _ => pg_name (i := 4) scTold.nd rfl (Or.inl rfl))
        (fun _ _ _ _ _ => pts_one (pt_not (pt_val (pe_ix ix_tup (pv 4) pe_int (fun _ _ => rfl))))) (fun _ _ _ _ _ => pv 4))
      (pss_cons (ps_set (i := 3) scTold.nd rfl (.inl rfl) (pe_callW GH hr (by rfl) gH kH bH .nil pass0 (pa_cons (pv 0) pa_nil)))
      (pss_one (ps_ret (pe_and (pe_cmpR op_eq (pe_ix ix_tup (pv 3) pe_int (fun _ _ => rfl)) (pe_ifExp (pt_cmpR (op_neNilL hu) (pv 2) (pe_lst pa_nil) (nomark _)) (pe_ix ix_tup (pe_ix ix_list (pv 2) pe_int (fun _ _ => rfl)) pe_int (fun _ _ => rfl)) pe_str) (nomark _))
        (pe_one (pe_cmpR op_eq (pe_callB (call_reprO hr.g h100) (by rfl) br PyProof.Rows.boot_repr (pa_cons (pe_ix ix_tup (pv 3) pe_int (fun _ _ => rfl)) pa_nil))
          (pe_callB (call_reprO hr.g h100) (by rfl) br PyProof.Rows.boot_repr (pa_cons (pe_ifExp (pt_cmpR (op_neNilL hu) (pv 2) (pe_lst pa_nil) (nomark _)) (pe_ix ix_tup (pe_ix ix_list (pv 2) pe_int (fun _ _ => rfl)) pe_int (fun _ _ => rfl)) pe_non) pa_nil)) (nomark _))))))), ?_⟩
    refine rs_set ?_
    have tupAt : ∀ {H'' : Hp} {i : Nat} {x : Addr × Bool}, Same H H'' → [(q0, b0), (q1, b1), (q2, b2)][i]? = some x → ∃ z v, H'' x.1 = some (.tup [.bl x.2, .str z, v]) := fun {H'' i x} sx hx => by
      match i, hx with
      | 0, hx => cases hx; exact ⟨_, _, sx _ _ h0⟩
      | 1, hx => cases hx; exact ⟨_, _, sx _ _ h1⟩
      | 2, hx => cases hx; exact ⟨_, _, sx _ _ h2⟩
      | i + 3, hx => simp at hx
    refine ⟨.ref l, rfl, l, rfl, ⟨_, sql_of hl⟩, fun D nD => lc_list (K := K) (xs := [.ref q0, .ref q1, .ref q2]) (fun i H' => Same H H' ∧ H' D = some (.lst (badL q0 q1 q2 b0 b1 b2 i))) ⟨same_upd nD, upd_same⟩ (fun i H' _ w => sql_of (w.1 _ _ hl)) ?_ ?_⟩
    · rintro i v H' hx ⟨sx, eD⟩
      obtain ⟨x, hx2, rfl⟩ : ∃ x : Addr × Bool, [(q0, b0), (q1, b1), (q2, b2)][i]? = some x ∧ v = .ref x.1 := by
        match i, hx with
        | 0, hx => cases hx; exact ⟨_, rfl, rfl⟩
        | 1, hx => cases hx; exact ⟨_, rfl, rfl⟩
        | 2, hx => cases hx; exact ⟨_, rfl, rfl⟩
        | i + 3, hx => simp at hx
      obtain ⟨z, v', e⟩ := tupAt sx hx2
      have tk := take_snoc hx2
      have len := badL_len q0 q1 q2 b0 b1 b2 i
      have D0 : ∀ b o, H b = some o → b ≠ D := fun b o e => ne_of_none e nD
      refine ⟨rfl, .ref x.1, rfl, x.1, _, 0, .bl x.2, rfl, rfl, sqt_of e, atI_nat (j := 0) rfl, x.2, rfl, ?_⟩
      cases hb : x.2 with
      | false =>
        show if true = true then _ else _
        rw [if_pos rfl]
        refine ⟨.ref x.1, rfl, _, eD, smallM (by omega), fun b o e => by rw [upd_ne (D0 b o e)]; exact sx _ _ e, ?_⟩
        rw [upd_same]
        unfold badL
        rw [tk, List.filter_append, List.map_append]
        simp [hb]
      | true =>
        show if false = true then _ else _
        rw [if_neg Bool.false_ne_true]
        refine ⟨sx, ?_⟩
        rw [eD]
        unfold badL
        rw [tk, List.filter_append, List.map_append]
        simp [hb]
    rintro H1 ⟨s1, eD⟩
    have eD : H1 D = some (.lst (badL q0 q1 q2 b0 b1 b2 3)) := eD
    refine rs_set ?_
    refine ⟨.ref a, rfl, fun fs hp dn => ⟨a, G, tl, rfl, Act.go rfl ac rfl rfl dn, hG _ s1, ?_⟩⟩
    -- what stands behind the call
    have fin : ∀ (H2 : Hp) (tp : Addr) (z : Str) (v : V) (d : PyData), Same H1 H2 → H2 tp = some (.tup [.str z, v]) → Dx p0 H2 v d → fineD d = true → (firstBad b0 b1 b2 = none → z = "" ∧ v = .non) → (∀ i, firstBad b0 b1 b2 = some i → z = wordK i ∧ [v0, v1, v2][i]? = some v) →
        tRet (tAndV (tOp rEq (tOp (rIxT K) (tVar 3) (tC (.int 0))) (tIf (tTest (tOp (rNilL true K) (tVar 2) (tLst tNil))) (tOp (rIxT K) (tOp (rIxL K) (tVar 2) (tC (.int 0))) (tC (.int 1))) (tC (.str ""))))
          (tOp rEq (tCB rReprO (tCons (tOp (rIxT K) (tVar 3) (tC (.int 1))) tNil)) (tCB rReprO (tCons (tIf (tTest (tOp (rNilL true K) (tVar 2) (tLst tNil))) (tOp (rIxT K) (tOp (rIxL K) (tVar 2) (tC (.int 0))) (tC (.int 2))) (tC .non)) tNil))))
          { nx := fun x H' => Q V.non H', rt := Q } [some (.ref a), some (.ref l), some (.ref D), some (.ref tp), none] H2 := by
      intro H2 tp z v d s2 et xv fv hn hs
      have s12 := s1.trans s2
      have eD2 := s2 _ _ eD
      show tAndV _ _ _ _ _
      refine ⟨.ref tp, rfl, tp, _, 0, .str z, rfl, rfl, sqt_of et, atI_nat (j := 0) rfl, .ref D, rfl, Nat.zero_le _, fun e ne => ?_⟩
      have s3 := same_upd (o := .lst []) ne
      refine ⟨D, e, _, rfl, rfl, sql_of (s3 _ _ eD2), sql_of upd_same, _, rfl, ?_⟩
      cases hfb : firstBad b0 b1 b2 with
      | none =>
        obtain ⟨rfl, rfl⟩ := hn hfb
        rw [badL_none (q0 := q0) (q1 := q1) (q2 := q2) hfb]
        show if false = true then _ else _
        rw [if_neg Bool.false_ne_true]
        refine ⟨rfl, _, rfl, ?_⟩
        rw [show decide (V.str (Str.ofString "") = V.str (Str.ofString "")) = true from decide_eq_true rfl]
        show if true = true then _ else _
        rw [if_pos rfl]
        refine ⟨.ref tp, rfl, tp, _, 1, .non, rfl, rfl, sqt_of (s3 _ _ et), atI_nat (j := 1) rfl, .non, p0, .none, rfl, .flat rfl, by decide, .ref D, rfl, Nat.zero_le _, fun e' ne' => ?_⟩
        have s4 := same_upd (o := .lst []) ne'
        refine ⟨D, e', _, rfl, rfl, sql_of (s4 _ _ (s3 _ _ eD2)), sql_of upd_same, _, rfl, ?_⟩
        rw [badL_none (q0 := q0) (q1 := q1) (q2 := q2) hfb]
        show if false = true then _ else _
        rw [if_neg Bool.false_ne_true]
        refine ⟨.non, p0, .none, rfl, .flat rfl, by decide, rfl, ?_⟩
        rw [show decide (V.str (PyData.none.shown) = V.str (PyData.none.shown)) = true from decide_eq_true rfl]
        exact q _ ((s12.trans s3).trans s4)
      | some i =>
        obtain ⟨ez, hv⟩ := hs i hfb
        obtain ⟨qi, rest, hq, eb⟩ := badL_some (q0 := q0) (q1 := q1) (q2 := q2) hfb
        have li := firstBad_lt hfb
        have hqi : ∃ b, H qi = some (.tup [.bl b, .str (wordK i), v]) := by
          match i, li with
          | 0, _ => cases hq; cases hv; exact ⟨_, h0⟩
          | 1, _ => cases hq; cases hv; exact ⟨_, h1⟩
          | 2, _ => cases hq; cases hv; exact ⟨_, h2⟩
        obtain ⟨bi, hqi⟩ := hqi
        rw [eb] at eD2 ⊢
        show if true = true then _ else _
        rw [if_pos rfl]
        refine ⟨.ref D, rfl, D, _, 0, .ref qi, rfl, rfl, sql_of (s3 _ _ eD2), atI_nat (j := 0) rfl, qi, _, 1, .str (wordK i), rfl, rfl, sqt_of (s3 _ _ (s12 _ _ hqi)), atI_nat (j := 1) rfl, rfl, _, rfl, ?_⟩
        rw [show decide (V.str z = V.str (wordK i)) = true from decide_eq_true (by rw [ez])]
        show if true = true then _ else _
        rw [if_pos rfl]
        refine ⟨.ref tp, rfl, tp, _, 1, v, rfl, rfl, sqt_of (s3 _ _ et), atI_nat (j := 1) rfl, v, p0, d, rfl, Dx.keep (.of s3) _ _ xv, fv, .ref D, rfl, Nat.zero_le _, fun e' ne' => ?_⟩
        have s4 := same_upd (o := .lst []) ne'
        refine ⟨D, e', _, rfl, rfl, sql_of (s4 _ _ (s3 _ _ eD2)), sql_of upd_same, _, rfl, ?_⟩
        show if true = true then _ else _
        rw [if_pos rfl]
        refine ⟨.ref D, rfl, D, _, 0, .ref qi, rfl, rfl, sql_of (s4 _ _ (s3 _ _ eD2)), atI_nat (j := 0) rfl, qi, _, 2, v, rfl, rfl, sqt_of (s4 _ _ (s3 _ _ (s12 _ _ hqi))), atI_nat (j := 2) rfl, v, p0, d, rfl, Dx.keep (.of (s3.trans s4)) _ _ xv, fv, rfl, ?_⟩
        rw [show decide (V.str d.shown = V.str d.shown) = true from decide_eq_true rfl]
        exact q _ ((s12.trans s3).trans s4)
    refine ht _ _ _ s1 (fun hfb v H2 s2 H3 tp s3 e => ?_) (fun i hfb v hv dd H2 s2 nd => ?_)
    · exact fin H3 tp "" .non .none (s2.trans s3) e (.flat rfl) (by decide) (fun _ => ⟨rfl, rfl⟩) (fun i hi => by rw [hfb] at hi; cases hi)
    · have li := firstBad_lt hfb
      refine ⟨c i, dd, [("value", v)], v, decide (i = 0), decide (i = 1), decide (i = 2), C3.ct i li dd, upd_same, rfl, C3.kit i 0 li (by decide), C3.kit i 1 li (by decide), C3.kit i 2 li (by decide), fun H3 tp s3 e => ?_⟩
      rw [pick_word li] at e
      have sA : Same H1 H3 := (s2.trans (same_upd nd)).trans s3
      have hx : ∃ d, Dx p0 H v d ∧ fineD d = true := by
        match i, li with
        | 0, _ => cases hv; exact ⟨_, x0, f0⟩
        | 1, _ => cases hv; exact ⟨_, x1, f1⟩
        | 2, _ => cases hv; exact ⟨_, x2, f2⟩
      obtain ⟨d, xd, fd'⟩ := hx
      exact fin H3 tp (wordK i) v d sA e (Dx.keep (.of (s1.trans sA)) _ _ xd) fd' (fun hi => by rw [hfb] at hi; cases hi) (fun j hj => by
        rw [hfb] at hj
        cases hj
        exact ⟨rfl, hv⟩)
end
end Hw

set_option Elab.async false
set_option linter.all false
set_option maxRecDepth 100000
set_option maxHeartbeats 2000000
namespace PySem
theorem nP_sub_str_dict : isSubtype (.type "str") (.type "dict") = pure false := by rw [isSubtype_type]; kernel_rfl
theorem nP_sub_dict_str : isSubtype (.type "dict") (.type "str") = pure false := by rw [isSubtype_type]; kernel_rfl
end PySem
namespace PySem.SeqAt
open PyProof.Rows
theorem dict_eq_declines_str (l : Addr) (o : Obj) (ho : o.cls = .type "dict") (b : Str) (u : Tok) :
    Meets (Builtin.«dict.__eq__» ⟨[.ref l, .str b u], []⟩) (fun _ R s => s.heap.get? l = some o ∧ R (.ok (.ret .notImplemented)) s) :=
  .of_wp fun prog w A R s h => by obtain ⟨hp, g, d, tk, os⟩ := s; obtain ⟨hl, h⟩ := h; have f1 := nP_sub_str_dict; wp_walk; exact ⟨_, rfl, h⟩
theorem str_eq_declines_dict (b : Str) (u : Tok) (l : Addr) (dd : Option Addr) (es : Array DictEntry) (n : Nat) (sl : Array (Option Value)) :
    Meets (Builtin.«str.__eq__» ⟨[.str b u, .ref l], []⟩) (fun _ R s => s.heap.get? l = some { cls := .type "dict", dict := dd, data := .dict es n, slots := sl } ∧ R (.ok (.ret .notImplemented)) s) :=
  .of_wp fun prog w A R s h => by obtain ⟨hp, g, d, tk, os⟩ := s; obtain ⟨hl, h⟩ := h; wp_walk using wpAny_loadPart' hl, wpAny_load hl; exact ⟨_, rfl, h⟩
theorem RcAt.dict_str {A : Around} {s : Shared} {l : Addr} {o : Obj} {es : Array DictEntry} {n : Nat} (b : Str) (u : Tok) (ho : s.heap.get? l = some o) (hc : o.cls = .type "dict") (hd : o.data = .dict es n) (hu : A.units < cLine) : RcAt A s (.ref l) (.str b u) false := fun prog w E Q h => by
  obtain ⟨cls, dd, data, sl⟩ := o
  simp only at hc hd
  subst hc hd
  exact rc_eq_decline_or (k := false) ⟨_, ho, rfl⟩ (typeIs_str s b u) (by decide) nP_sub_str_dict F.slot_dict_eq F.slot_str_eq_refl
    (fun _ hq => call_meets F.slot_dict_eq ⟨_, ho, rfl⟩ F.entry_dict_eq (F.args_dict_eq_2 _ _) (dict_eq_declines_str l _ rfl b u) ⟨ho, hq⟩)
    (fun _ hq => call_meets F.slot_str_eq_refl (typeIs_str s b u) F.entry_str_eq (F.args_str_eq_2 _ _) (str_eq_declines_dict b u l dd es n sl) ⟨ho, hq⟩)
    (fun _ hq => wpAny_of_eq (rfl : isSame (.ref l) (.str b u) = pure false) hq) (.inr hu) h
end PySem.SeqAt
namespace Hw
open PySem PySem.Spec PyProof.Rows L2
/-! x == z, x any data, z a text -/
def isTx (z : Str) : PyData → Bool
  | .str y => decide (y = z)
  | _ => false
def rEqTx : R2 := fun x y H Q => ∃ (a : Addr) (d : PyData) (z : Str), Dx a H x d ∧ y = .str z ∧ Q (.bl (isTx z d)) H
theorem op_eqTx {X : Cx} (hu : X.A.units < cLine) : OpR X (compareOp .Eq) rEqTx := by
  intro pins s σ H x y v u Q I rx ry h
  obtain ⟨a, d, z, hd, rfl, q⟩ := h
  obtain ⟨t, rfl⟩ := ry
  cases hd with
  | flat e =>
    refine op_eq pins s σ H _ (.str z) v (.str z t) Q I rx ⟨t, rfl⟩ ?_
    cases x with
    | non => cases e; exact ⟨rfl, by rw [show decide (V.non = V.str z) = false from decide_eq_false (fun y => nomatch y)]; exact q⟩
    | bl b => cases e; exact ⟨rfl, by rw [show decide (V.bl b = V.str z) = false from decide_eq_false (fun y => nomatch y)]; exact q⟩
    | int b => cases e; exact ⟨rfl, by rw [show decide (V.int b = V.str z) = false from decide_eq_false (fun y => nomatch y)]; exact q⟩
    | str b =>
      cases e
      refine ⟨rfl, ?_⟩
      have e2 : decide (V.str b = V.str z) = decide (b = z) := by
        rw [decide_eq_decide]
        exact ⟨fun y => V.str.inj y, fun y => by rw [y]⟩
      rw [e2]
      exact q
    | byt b => cases e
    | flt b => cases e
    | ref a => cases e
    | ty n => cases e
  | lst h1 h2 h3 =>
    cases rx
    obtain ⟨its, rv, pl, _⟩ := I.list (sql_of h1)
    exact SeqAt.RcAt.list_str z t pl.isList hu X.prog X.w _ _ ⟨.bl false, H, I, rfl, q⟩
  | tup h1 h2 h3 =>
    cases rx
    obtain ⟨its, rv, pl, _⟩ := I.tuple (sqt_of h1)
    exact SeqAt.RcAt.tuple_str z t pl hu X.prog X.w _ _ ⟨.bl false, H, I, rfl, q⟩
  | dct h1 h2 h3 h4 =>
    cases rx
    obtain ⟨_, _, vs, rel, o, es, ep, ho, hx, hdat, _⟩ := dk_of I.hok h1
    exact SeqAt.RcAt.dict_str z t ho hx.1 hdat hu X.prog X.w _ _ ⟨.bl false, H, I, rfl, q⟩
end Hw

set_option Elab.async false
set_option linter.all false
set_option maxRecDepth 100000
set_option maxHeartbeats 4000000
namespace Hw
open PySem L2 PyProof.Rows
abbrev sPart : Stmt := topS 63
def spPart : Sp := fun vs H Q _ => ∃ (a l1 l2 : Addr) (z : Str) (xs1 xs2 : List V) (ds1 ds2 : List PyData) (N : Nat), vs = [.ref a, .str z, .ref l1, .ref l2] ∧ Pot H a N ∧ N < 900000000 ∧ H l1 = some (.lst xs1) ∧ H l2 = some (.lst xs2) ∧ a ≠ l1 ∧ a ≠ l2 ∧ DxAll a H xs1 ds1 ∧ DxAll a H xs2 ds2 ∧
  0 < ds1.length ∧ ds1.length ≤ 1000 ∧ 0 < ds2.length ∧ ds2.length ≤ 1000 ∧
  ∀ p b v d H', SameX a H H' → Pot H' a (N + 2) → p ≠ a → H' p = some (.tup [.bl b, .str z, v]) → Dx a H' v d → (b = true → d ∈ ds1) → (b = false → d ∈ ds2) → Q (.ref p) H'
section
variable {P : Program} {w : World} {K : PySem.W.Frag} {mg : Str → Option Value} {base : Heap}
theorem scPart : FnScope ["pot", "word", "fine", "odd"] ["pot", "word", "fine", "odd"] (defScope sPart) := ⟨rfl, rfl, rfl, by decide +kernel, rfl, by decide +kernel, by decide +kernel⟩
theorem ok_part {f fT fO : Addr} {fd fdT fdO : FuncData} {k : Nat} (F : Fun K "_law_part" "_law_part" sPart f fd)
    (GT : FnOk P w K mg base CX0 k fT fdT ["pot", "upto"] spTake) (gT : mg "_law_take" = some (.ref fT)) (kT : PySem.W.keepIn K (.ref fT) = true) (bT : Binds K fdT ["pot", "upto"] [])
    (GO : FnOk P w K mg base CX0 k fO fdO ["pot", "some"] (spOf2 K)) (gO : mg "_law_of" = some (.ref fO)) (kO : PySem.W.keepIn K (.ref fO) = true) (bO : Binds K fdO ["pot", "some"] []) :
    FnOk P w K mg base CX0 (k + 1) f fd ["pot", "word", "fine", "odd"] spPart := by
  refine F.ok scPart (fun vs H Q E h => ?_) (fun cdv A outer s H vs Q E hr h => ?_)
  · obtain ⟨a, l1, l2, z, xs1, xs2, ds1, ds2, N, rfl, _⟩ := h
    rfl
  · obtain ⟨a, l1, l2, z, xs1, xs2, ds1, ds2, N, rfl, hP, hN, e1, e2, n1, n2, x1, x2, a1, a2, a3, a4, q⟩ := h
    refine ⟨_, pss_cons (ps_if (pt_cmpR op_eq (pe_call GT hr (by rfl) gT kT bT .nil pass0 (pa_cons (pv 0) (pa_cons pe_int pa_nil))) pe_int (nomark _))
        (pss_one (ps_ret (pe_tup (pa_cons pe_bl (pa_cons (pv 1) (pa_cons (pe_call GO hr (by rfl) gO kO bO .nil pass0 (pa_cons (pv 0) (pa_cons (pv 2) pa_nil))) pa_nil)))))) pss_nil)
      (pss_one (ps_ret (pe_tup (pa_cons pe_bl (pa_cons (pv 1) (pa_cons (pe_call GO hr (by rfl) gO kO bO .nil pass0 (pa_cons (pv 0) (pa_cons (pv 3) pa_nil))) pa_nil)))))), ?_⟩
    have l1' := x1.length
    have l2' := x2.length
    refine rs_ifR ?_
    refine ⟨.ref a, rfl, a, 2, N, rfl, hP, by omega, by decide, by decide, fun r H1 r0 r1 s1 p1 => ?_⟩
    have x1' := DxAll.keep s1 _ _ x1
    have x2' := DxAll.keep s1 _ _ x2
    have e1' := s1 _ _ (Ne.symm n1) e1
    have e2' := s1 _ _ (Ne.symm n2) e2
    refine ⟨rfl, _, rfl, ?_⟩
    have fin : ∀ (b : Bool) (l : Addr) (xs : List V) (ds : List PyData), H1 l = some (.lst xs) → a ≠ l → DxAll a H1 xs ds → 0 < ds.length → ds.length ≤ 1000 → (b = true → ds = ds1) → (b = false → ds = ds2) →
        spOf2 K [.ref a, .ref l] H1 (fun x H2 => 3 ≤ sizeLine ∧ ∀ p, H2 p = none → Q (.ref p) (upd H2 p (.tup [.bl b, .str z, x]))) E0 := fun b l xs ds el nl xl c1 c2 t1 t2 => by
      have ll := xl.length
      refine .inl ⟨a, l, xs, N + 1, rfl, p1, by omega, sql_of el, nl, by omega, by omega, fun i v H2 hv s2 p2 => ⟨by decide, fun p np => ?_⟩⟩
      obtain ⟨d, hd, xd⟩ := DxAll.at xl hv
      have s3 := same_upd (o := .tup [.bl b, .str z, v]) np
      refine q p b v d _ ((s1.trans s2).trans (.of s3)) (p2.same s3) (fun y => by rw [y] at np; exact p2.some np) upd_same (Dx.keep (.of s3) _ _ (Dx.keep s2 _ _ xd)) (fun hb => by rw [← t1 hb]; exact hd) (fun hb => by rw [← t2 hb]; exact hd)
    by_cases hz : decide (V.int r = V.int 0) = true
    · rw [hz]
      show if true = true then _ else _
      rw [if_pos rfl]
      exact ⟨.str z, rfl, .ref a, rfl, .ref l1, rfl, fin true l1 xs1 ds1 e1' n1 x1' a1 a2 (fun _ => rfl) (fun h => by cases h)⟩
    · rw [Bool.not_eq_true] at hz
      rw [hz]
      show if false = true then _ else _
      rw [if_neg Bool.false_ne_true]
      exact ⟨.str z, rfl, .ref a, rfl, .ref l2, rfl, fin false l2 xs2 ds2 e2' n2 x2' a3 a4 (fun h => by cases h) (fun _ => rfl)⟩
end
end Hw

set_option Elab.async false
set_option linter.all false
set_option maxRecDepth 100000
set_option maxHeartbeats 4000000
namespace Hw
open PySem L2 LamX PyProof.Rows
/-! what stays while tables are written -/
def ExtA (a : Addr) (H H' : Hp) : Prop := ∀ b o, b ≠ a → (∀ ps, o ≠ HO.tbl ps) → H b = some o → H' b = some o
theorem ExtA.refl (a : Addr) (H : Hp) : ExtA a H H := fun _ _ _ _ e => e
theorem ExtA.ofX {a : Addr} {H H' : Hp} (s : SameX a H H') : ExtA a H H' := fun b o n _ e => s b o n e
theorem ExtA.ofN {a : Addr} {H H' : Hp} (s : ExtN H H') : ExtA a H H' := fun b o _ n e => s b o e n
theorem ExtA.ofS {a : Addr} {H H' : Hp} (s : Same H H') : ExtA a H H' := fun b o _ _ e => s b o e
theorem ExtA.trans {a : Addr} {H H1 H2 : Hp} (x : ExtA a H H1) (y : ExtA a H1 H2) : ExtA a H H2 := fun b o n m e => y b o n m (x b o n m e)
theorem ExtA.lst {a b : Addr} {H H' : Hp} {xs : List V} (s : ExtA a H H') (n : b ≠ a) (e : H b = some (.lst xs)) : H' b = some (.lst xs) := s _ _ n (fun _ z => nomatch z) e
theorem ExtA.tupl {a b : Addr} {H H' : Hp} {xs : List V} (s : ExtA a H H') (n : b ≠ a) (e : H b = some (.tup xs)) : H' b = some (.tup xs) := s _ _ n (fun _ z => nomatch z) e
theorem ExtN.ofS {H H' : Hp} (s : Same H H') : ExtN H H' := fun b o e _ => s b o e
theorem tabs_same {T : List (Addr × Str)} {H H' : Hp} (t : Tabs T H) (s : Same H H') : Tabs T H' := fun p hp => (t p hp).ext s
theorem Pot.ext {H H' : Hp} {a : Addr} {N : Nat} (p : Pot H a N) (s : ExtN H H') : Pot H' a N := by
  obtain ⟨x, y, z, e, h⟩ := p.ex
  exact ⟨x, y, z, s _ _ e (fun _ q => nomatch q), h⟩
mutual
theorem Dx.ext {a : Addr} {H H' : Hp} (s : ExtA a H H') : ∀ (v : V) (d : PyData), Dx a H v d → Dx a H' v d
  | _, .list ds, h => by
    cases h with
    | flat e => exact .flat e
    | lst h1 h2 h3 => exact .lst (s _ _ h2 (fun _ z => nomatch z) h1) h2 (DxAll.ext s _ ds h3)
  | _, .tuple ds, h => by
    cases h with
    | flat e => exact .flat e
    | tup h1 h2 h3 => exact .tup (s _ _ h2 (fun _ z => nomatch z) h1) h2 (DxAll.ext s _ ds h3)
  | _, .dict ds, h => by
    cases h with
    | flat e => exact .flat e
    | dct h1 h2 h3 h4 => exact .dct (s _ _ h2 (fun _ z => nomatch z) h1) h2 h3 h4
  | _, .none, h => by cases h with | flat e => exact .flat e
  | _, .bool _, h => by cases h with | flat e => exact .flat e
  | _, .int _, h => by cases h with | flat e => exact .flat e
  | _, .str _, h => by cases h with | flat e => exact .flat e
theorem DxAll.ext {a : Addr} {H H' : Hp} (s : ExtA a H H') : ∀ (vs : List V) (ds : List PyData), DxAll a H vs ds → DxAll a H' vs ds
  | _, [], h => by cases h; exact .nil
  | _, d :: ds, h => by
    cases h with
    | cons h1 h2 => exact .cons (Dx.ext s _ d h1) (DxAll.ext s _ ds h2)
end
theorem pot_ins {H : Hp} {a x C dx : Addr} {fs : List (Str × V)} {N : Nat} (p : Pot H a N) (e : H x = some (.ins C dx fs)) : x ≠ a := fun z => by
  obtain ⟨_, _, _, e2, _⟩ := p.ex
  rw [z, e2] at e; cases e
theorem pot_tupl {H : Hp} {a x : Addr} {xs : List V} {N : Nat} (p : Pot H a N) (e : H x = some (.tup xs)) : x ≠ a := fun z => by
  obtain ⟨_, _, _, e2, _⟩ := p.ex
  rw [z, e2] at e; cases e
theorem DeedAt.ext {H H' : Hp} {a q : Addr} {N : Nat} (p : Pot H a N) (s : ExtA a H H') : ∀ {e : Deed}, DeedAt H q e → DeedAt H' q e
  | .come _ _, ⟨tq, h1, h2⟩ => ⟨tq, s _ _ (pot_tupl p h1) (fun _ z => nomatch z) h1, s _ _ (pot_tupl p h2) (fun _ z => nomatch z) h2⟩
  | .die _, h => s _ _ (pot_tupl p (show H q = some (.tup _) from h)) (fun _ z => nomatch z) h
theorem HistO.ext {C : Addr} {H H' : Hp} {a x : Addr} {N : Nat} {ds : List Deed} (w : HistO C H x ds) (p : Pot H a N) (s : ExtA a H H') : HistO C H' x ds := by
  obtain ⟨⟨dx, dp, lp, ep, fs, h1, h2, h3, h4, h5, h6, ⟨qs, h7, h7'⟩, h8, h9⟩, a', b⟩ := w
  exact ⟨⟨dx, dp, lp, ep, fs, s _ _ (pot_ins p h1) (fun _ z => nomatch z) h1, h2, h3, h4, h5, h6, ⟨qs, s _ _ (pot_tupl p h7) (fun _ z => nomatch z) h7, paired_mono (fun q d e => e.ext p s) h7'⟩, s _ _ (pot_tupl p h8) (fun _ z => nomatch z) h8, s _ _ (pot_tupl p h9) (fun _ z => nomatch z) h9⟩, a', b⟩
theorem ShowV.ext {C : Addr} {H H' : Hp} {a : Addr} {N : Nat} {v : V} (h : ShowV C H v) (p : Pot H a N) (s : ExtA a H H') : ShowV C H' v := by
  cases h with
  | non => exact .non
  | str z => exact .str z
  | his w => exact .his (w.ext p s)
/-- all keywords, in the reverse sequence of the parameters -/
def gRv : List Value → List Value → List Value := fun us ws => match us with
  | [] => ws.reverse
  | _ :: _ => []
def gVRv : List V → List V → List V := fun us ws => match us with
  | [] => ws.reverse
  | _ :: _ => []
theorem valsRev : ∀ {vs : List V} {us : List Value}, Vals vs us → Vals vs.reverse us.reverse
  | _, _, .nil => .nil
  | _, _, .cons r t => by
    rw [List.reverse_cons, List.reverse_cons]
    exact (valsRev t).append (.cons r .nil)
theorem rv_rel {vs : List V} {us : List Value} {zs : List V} {ws : List Value} (r : Vals vs us) (h : Vals zs ws) : Vals (gVRv vs zs) (gRv us ws) := by
  cases r with
  | nil => exact valsRev h
  | cons _ _ => exact .nil
theorem kbR4 {K : PySem.W.Frag} {fd : FuncData} {ps ks : List Str} (hp : ps.length = 4) (h : ∀ (s : Shared) (a b c d : Value), BindsTo s fd ⟨[], ks.zip [a, b, c, d]⟩ (ps.zip [d, c, b, a])) : KBinds K fd ps ks gRv gVRv := by
  refine ⟨fun s us ws _ hl => ?_, rv_rel⟩
  rw [hp] at hl
  cases us with
  | cons u us => cases hl
  | nil =>
    have hl : ws.reverse.length = 4 := hl
    rw [List.length_reverse] at hl
    match ws, hl with
    | [a, b, c, d], _ => exact h s a b c d
/-! what is drawn -/
def rulesOdd : List PyData := [.str "Line", .str "", .str "more", .str "nothing", .none, .int 0, .bool true, .tuple [.str "line"], .list [.str "line"], .dict [], .str "line "]
def kindsOdd : List PyData := [.str "More", .str "", .str "line", .str "ties", .none, .int 0, .bool false, .tuple [.str "more"], .list [.str "far"], .dict [], .str "far "]
def rulesFine : List PyData := [.str "none", .str "line", .str "ring", .str "star", .str "least", .str "all"]
def kindsFine : List PyData := [.str "more", .str "far", .str "parted", .str "changes"]
def numsD : List PyData := [.int 0, .int 1, .int 40, .int 41, .int (-1), .bool true, .bool false, .none, .str "1", .tuple [.int 1], .list [], .int (10 ^ 30)]
theorem drawn_fine : (rulesOdd ++ (kindsOdd ++ (rulesFine ++ (kindsFine ++ numsD)))).all fineD = true := by kernel_rfl
theorem rulesOdd_no : (rulesOdd.all fun d => !isRuleD d) = true := by kernel_rfl
theorem kindsOdd_no : (kindsOdd.all fun d => !isKindD d) = true := by kernel_rfl
theorem rulesFine_yes : rulesFine.all isRuleD = true := by kernel_rfl
theorem kindsFine_yes : kindsFine.all isKindD = true := by kernel_rfl
theorem fine_of {d : PyData} (h : d ∈ rulesOdd ∨ d ∈ kindsOdd ∨ d ∈ rulesFine ∨ d ∈ kindsFine ∨ d ∈ numsD) : fineD d = true := by
  refine List.all_eq_true.mp drawn_fine d ?_
  simp only [List.mem_append]
  exact h
theorem rule_flag {d : PyData} {b : Bool} (h1 : b = true → d ∈ rulesFine) (h2 : b = false → d ∈ rulesOdd) : isRuleD d = b := by
  cases b with
  | true => exact List.all_eq_true.mp rulesFine_yes d (h1 rfl)
  | false => have := List.all_eq_true.mp rulesOdd_no d (h2 rfl); simpa using this
theorem kind_flag {d : PyData} {b : Bool} (h1 : b = true → d ∈ kindsFine) (h2 : b = false → d ∈ kindsOdd) : isKindD d = b := by
  cases b with
  | true => exact List.all_eq_true.mp kindsFine_yes d (h1 rfl)
  | false => have := List.all_eq_true.mp kindsOdd_no d (h2 rfl); simpa using this
theorem part_fine {d : PyData} {b : Bool} {fs os : List PyData} (h1 : b = true → d ∈ fs) (h2 : b = false → d ∈ os) (h : ∀ d, d ∈ fs ∨ d ∈ os → fineD d = true) : fineD d = true := by
  cases b with
  | true => exact h d (.inl (h1 rfl))
  | false => exact h d (.inr (h2 rfl))
theorem brk_first (dr dk dg : PyData) : brkBad dr dk dg = firstBad (isRuleD dr) (isKindD dk) (goalD dk dg) := rfl
theorem goal_tx (dk dg : PyData) : goalD dk dg = if isTx "parted" dk = true then withinD 0 0 dg else withinD 1 40 dg := by
  cases dk with
  | str z =>
    rw [goal_str]
    by_cases h : z = "parted"
    · rw [if_pos h, if_pos (show isTx "parted" (.str z) = true from decide_eq_true h)]
    · rw [if_neg h, if_neg (show ¬ isTx "parted" (.str z) = true from fun e => h (of_decide_eq_true e))]
  | _ => rfl
end Hw

set_option Elab.async false
set_option linter.all false
set_option maxRecDepth 100000
set_option maxHeartbeats 4000000
namespace Hw
open PySem PySem.Spec L2 LamX PyProof PyProof.Rows
abbrev sRight : Stmt := topS 64
/-- a def whose code object is known -/
structure FunC (K : PySem.W.Frag) (x qual : Str) (st : Stmt) (f : Addr) (fd : FuncData) (c : Addr) : Prop where
  ex : ∃ (oc : Value) (od : Option Addr) (kV doc pm : Value) (an : Option Addr) (ct : Value) (osl : Array (Option Value)),
    fd = PySem.W.fnOf x qual (defArgs st) (defBody st) (defScope st) .none kV doc pm an (.ref c) ct ∧ K.lookup f = some ⟨oc, od, .func fd, osl⟩ ∧ PySem.W.codeIn K (.ref c) qual = true
theorem funGC {P : Program} {w : World} {K : PySem.W.Frag} {mg : Str → Option Value} {base : Heap} {x qual : Str} {st : Stmt} {f c : Addr} {fd : FuncData} {N ps : List Str} {k : Nat} {sp : Sp} (F : FunC K x qual st f fd c) (S : FnScope N ps (defScope st)) (len : ∀ vs H Q E, sp vs H Q E → vs.length = ps.length)
    (hbody : ∀ (A : Around) (outer : List Env) (s : Shared) (H : Hp) (vs : List V) (Q : VK) (E : XK), RoomG k (A.deeper (envOfC qual (defScope st) s.heap.objs.size f (.ref c))) → sp vs H Q E →
      ∃ t, PSs (cxOf CX0 P w K mg base N qual (defScope st) f (.ref c) A outer s H E).nox (defBody st) t ∧ t { nx := fun _ H' => Q .non H', rt := Q } (start N vs) H) : FnG P w K mg base CX0 (k + 1) f fd ps sp := by
  obtain ⟨oc, od, kV, doc, pm, an, ct, osl, rfl, lk, hcd⟩ := F.ex
  exact fnG_of lk hcd S len fun A outer s H vs Q E hr hsp => by
    obtain ⟨t, h, q⟩ := hbody A outer s H vs Q E hr hsp
    exact ⟨t, h.nox, q⟩
def lamQ : Str := (envOfC "_law_right" (defScope sRight) 0 0 .none).qual ++ "<lambda>"
def spRightT (T : List (Addr × Str)) : Sp := fun vs H Q _ => ∃ (a : Addr) (N : Nat), vs = [.ref a] ∧ Pot H a N ∧ N < 100000 ∧ Tabs T H ∧ ∀ H', ExtA a H H' → Pot H' a (N + 1000) → Tabs T H' → Q (.bl true) H'
theorem lamQ_eq (L : Nat) (f : Addr) (cd : Value) : (envOfC "_law_right" (defScope sRight) L f cd).qual ++ "<lambda>" = lamQ := rfl
theorem mk_pow : MkD (tOp (rI CPowW fun i j => .int (i ^ j.toNat)) (tC (.int 10)) (tC (.int 30))) (.int (10 ^ 30)) := fun a σ H Q _ q => ⟨10, 30, rfl, rfl, ⟨by decide, by decide⟩, q _ H (Same.refl H) (.flat rfl)⟩
def mkOdd {s1 s2 s3 s4 s5 s6 s7 : Str} {i : Int} {b : Bool} : MkA (tCons (tC (.str s1)) (tCons (tC (.str s2)) (tCons (tC (.str s3)) (tCons (tC (.str s4)) (tCons (tC .non) (tCons (tC (.int i)) (tCons (tC (.bl b)) (tCons (tTup (tCons (tC (.str s5)) tNil)) (tCons (tLst (tCons (tC (.str s6)) tNil)) (tCons tDNewK (tCons (tC (.str s7)) tNil)))))))))))
    [.str s1, .str s2, .str s3, .str s4, .none, .int i, .bool b, .tuple [.str s5], .list [.str s6], .dict [], .str s7] :=
  mkA_cons (mk_c rfl) (mkA_cons (mk_c rfl) (mkA_cons (mk_c rfl) (mkA_cons (mk_c rfl) (mkA_cons (mk_c rfl) (mkA_cons (mk_c rfl) (mkA_cons (mk_c rfl) (mkA_cons (mk_tup (mkA_cons (mk_c rfl) mkA_nil) (Nat.le_of_lt_succ (by show 1 < 1001; decide))) (mkA_cons (mk_lst (mkA_cons (mk_c rfl) mkA_nil) (Nat.le_of_lt_succ (by show 1 < 1001; decide))) (mkA_cons mk_dnew (mkA_cons (mk_c rfl) mkA_nil))))))))))
theorem rs_end {t : TT} {A : TS} {D : Ends} {σ : L2.St} {H : Hp} (h : t σ H fun b H1 => if b = true then A D σ H1 else tNext D σ H1) : tIfS t A tNext D σ H := h
theorem r_c {v : V} {σ : L2.St} {H : Hp} {Q : VK} (h : Q v H) : tC v σ H Q := h
theorem tabs_sx {T : List (Addr × Str)} {H H' : Hp} {a : Addr} {N : Nat} (t : Tabs T H) (p : Pot H a N) (s : SameX a H H') : Tabs T H' := fun x hx => by
  obtain ⟨ps, h1, h2, h3⟩ := t x hx
  obtain ⟨_, _, _, ep, _⟩ := p.ex
  refine ⟨ps, s _ _ (fun z => by rw [z, ep] at h1; cases h1) h1, h2, fun pos cv e => ?_⟩
  obtain ⟨c, e1, e2⟩ := h3 pos cv e
  refine ⟨c, e1, s _ _ (fun z => ?_) e2⟩
  rw [z, ep] at e2
  have e3 : HO.lst _ = HO.ext _ := Option.some.inj e2
  cases e3
theorem comeA : histText [.come sA []] = "come a" := by decide +kernel
theorem histA : Hist [.come sA []] := Hist.come (ds := []) .nil (by unfold Nm; decide +kernel) (fun h => nomatch h) .nil (fun _ h => nomatch h)
section
variable {P : Program} {w : World} {K : PySem.W.Frag} {mg : Str → Option Value} {base : Heap}
theorem scRight : FnScope ["pot", "rules", "kinds", "lap", "rule", "kind", "numbers", "goal", "is_number", "is_fine", "parts", "value", "part"] ["pot"] (defScope sRight) := ⟨rfl, rfl, rfl, by decide +kernel, rfl, by decide +kernel, by decide +kernel⟩
theorem ok_right {f fP fO fT fS fB fI cc P0 CS C : Addr} {c : Nat → Addr} {fd fdP fdO fdT fdS fdB fdI : FuncData} {k j m : Nat} (hj : j + 1 ≤ k) (F : FunC K "_law_right" "_law_right" sRight f fd cc) (TB : TabB base mg cc P0) (B : Blt mg) (bi : mg "isinstance" = none) (bb : mg "bool" = none) (ba : mg "all" = none) (T : TxtH K mg C) (M : Mk K C fI)
    (GI : FnOk P w K mg base CX0 j fI fdI ["self", "text"] (spInitH C)) (bI : Binds K fdI ["self", "text"] [])
    (GP : FnOk P w K mg base CX0 k fP fdP ["pot", "word", "fine", "odd"] spPart) (gP : mg "_law_part" = some (.ref fP)) (kP : PySem.W.keepIn K (.ref fP) = true) (bP : Binds K fdP ["pot", "word", "fine", "odd"] [])
    (GO : FnOk P w K mg base CX0 k fO fdO ["pot", "some"] (spOf2 K)) (gO : mg "_law_of" = some (.ref fO)) (kO : PySem.W.keepIn K (.ref fO) = true) (bO : Binds K fdO ["pot", "some"] [])
    (GT : FnGL P w K mg base CX0 k fT fdT ["call", "parts"] (spTold3 P w K mg base m CS c)) (gT : mg "_law_is_told" = some (.ref fT)) (kT : PySem.W.keepIn K (.ref fT) = true) (bT : Binds K fdT ["call", "parts"] [])
    (GS : FnOk P w K mg base (L2N.CX P w) m fS fdS ["rule", "kind", "goal", "value"] (spShows c C)) (gS : mg "shows_breaker" = some (.ref fS)) (kS : PySem.W.keepIn K (.ref fS) = true) (kbS : KBinds K fdS ["rule", "kind", "goal", "value"] ["value", "goal", "kind", "rule"] gRv gVRv)
    (GB : FnOk P w K mg base (L2N.CX P w) m fB fdB ["rule", "kind", "goal"] (spBrk c)) (gB : mg "breaker" = some (.ref fB)) (kB : PySem.W.keepIn K (.ref fB) = true) (bB : Binds K fdB ["rule", "kind", "goal"] []) :
    FnG P w K mg base CX0 (k + 1) f fd ["pot"] (spRightT [(P0, lamQ)]) := by
  refine funGC F scRight (fun vs H Q E h => ?_) (fun A outer s H vs Q E hr h => ?_)
  · obtain ⟨a, N, rfl, _⟩ := h
    rfl
  · obtain ⟨a, N, rfl, hP, hN, hT, q⟩ := h
    have hu64 := hr.r.units
    have hu : (A.deeper (envOfC "_law_right" (defScope sRight) s.heap.objs.size f (.ref cc))).units < cLine := by omega
    refine ⟨_, (pss_cons (ps_set (i := 1) scRight.nd rfl (.inl rfl) (pe_lst (pa_cons pe_str (pa_cons pe_str (pa_cons pe_str (pa_cons pe_str (pa_cons pe_non (pa_cons pe_int (pa_cons pe_bl (pa_cons (pe_tup (pa_cons pe_str pa_nil)) (pa_cons (pe_lst (pa_cons pe_str pa_nil)) (pa_cons pe_dnewK (pa_cons pe_str pa_nil)))))))))))))
        (pss_cons (ps_set (i := 2) scRight.nd rfl (.inl rfl) (pe_lst (pa_cons pe_str (pa_cons pe_str (pa_cons pe_str (pa_cons pe_str (pa_cons pe_non (pa_cons pe_int (pa_cons pe_bl (pa_cons (pe_tup (pa_cons pe_str pa_nil)) (pa_cons (pe_lst (pa_cons pe_str pa_nil)) (pa_cons pe_dnewK (pa_cons pe_str pa_nil)))))))))))))
        (pss_cons (ps_for PassesOwn.never rfl (pi_range1 (by rfl) B.range (pa_cons pe_int pa_nil)) (pg_name (i := 3) scRight.nd rfl (.inl rfl)) (pss_cons (ps_set (i := 4) scRight.nd rfl (.inr rfl) (pe_call GP hr.r (by rfl) gP kP bP .nil pass0 (pa_cons (pv 0) (pa_cons pe_str (pa_cons (pe_lst (pa_cons pe_str (pa_cons pe_str (pa_cons pe_str (pa_cons pe_str (pa_cons pe_str (pa_cons pe_str pa_nil))))))) (pa_cons (pv 1) pa_nil))))) rfl (.inl rfl))
        (pss_cons (ps_set (i := 5) scRight.nd rfl (.inr rfl) (pe_call GP hr.r (by rfl) gP kP bP .nil pass0 (pa_cons (pv 0) (pa_cons pe_str (pa_cons (pe_lst (pa_cons pe_str (pa_cons pe_str (pa_cons pe_str (pa_cons pe_str pa_nil))))) (pa_cons (pv 2) pa_nil))))) rfl (.inl rfl))
        (pss_cons (ps_set (i := 6) scRight.nd rfl (.inl rfl) (pe_lst (pa_cons pe_int (pa_cons pe_int (pa_cons pe_int (pa_cons pe_int (pa_cons (pe_un un_neg pe_int) (pa_cons pe_bl (pa_cons pe_bl (pa_cons pe_non (pa_cons pe_str (pa_cons (pe_tup (pa_cons pe_int pa_nil)) (pa_cons (pe_lst pa_nil) (pa_cons (pe_op op_powW pe_int pe_int) pa_nil))))))))))))))
        (pss_cons (ps_set (i := 7) scRight.nd rfl (.inr rfl) (pe_call GO hr.r (by rfl) gO kO bO .nil pass0 (pa_cons (pv 0) (pa_cons (pv 6) pa_nil))) rfl (.inl rfl))
        (pss_cons (ps_set (i := 8) scRight.nd rfl (.inl rfl) (pe_and (pe_callB call_isi (by rfl) bi PyProof.Rows.boot_isinstance (pa_cons (pv 7) (pa_cons (pe_bltn (v := .ty "int") (by rfl) B.int (by decide +kernel) rfl) pa_nil))) (pe_one (pe_not (pe_callB call_isi (by rfl) bi PyProof.Rows.boot_isinstance (pa_cons (pv 7) (pa_cons (pe_bltn (v := .ty "bool") (by rfl) bb (by decide +kernel) rfl) pa_nil)))))))
        (pss_cons (ps_set (i := 9) scRight.nd rfl (.inl rfl) (pe_and (pv 8) (pe_one (pe_ifExp (pt_cmpR (op_eqTx hu) (pe_ix ix_tup (pv 5) pe_int (fun _ _ => rfl)) pe_str (nomark _)) (pe_cmpR op_eq (pv 7) pe_int (nomark _)) (pe_chain op_le op_le pe_int (pv 7) pe_int)))))
        (pss_cons (ps_set (i := 10) scRight.nd rfl (.inl rfl) (pe_lst (pa_cons (pv 4) (pa_cons (pv 5) (pa_cons (pe_tup (pa_cons (pv 9) (pa_cons pe_str (pa_cons (pv 7) pa_nil)))) pa_nil)))))
        (pss_cons (ps_set (i := 11) scRight.nd rfl (.inr rfl) (pe_call GO hr.r (by rfl) gO kO bO .nil pass0 (pa_cons (pv 0) (pa_cons (pe_lst (pa_cons pe_non (pa_cons pe_str (pa_cons (pe_make M GI (hr.r.mono hj) (by rfl) T.mH bI .nil pass0 (pa_cons pe_str pa_nil)) pa_nil)))) pa_nil))) rfl (.inl rfl))
        (pss_cons (ps_if (pt_not (pt_val (pe_lamW (tb := fun E1 => tCallK0 (spShows c C) gVRv E1 (tCons (tVar 11) (tCons (tVar 7) (tCons (tOp (rIxT K) (tVar 5) (tC (.int 2))) (tCons (tOp (rIxT K) (tVar 4) (tC (.int 2))) tNil))))) (CXl := L2N.CX P w) (j := m) (T := [(P0, lamQ)]) GT hr (by rfl) gT kT bT .nil pass0 (pa_cons (pv 10) pa_nil) TB rfl (List.mem_singleton.mpr (congrArg (Prod.mk P0) (lamQ_eq _ _ _))) (fun p hp _ => by rw [List.mem_singleton.mp hp]; exact (lamQ_eq _ _ _).symm) (lamS_by (sc := defScope sRight) (by decide +kernel)) rfl (fun _ _ _ _ _ => rfl)
            (fun A' outer' s' H' E' f' c' hr' => pe_callK0 GS hr' (by rfl) gS kS kbS (L2N.passes_call (L2N.takes_of rfl rfl rfl rfl) (fun _ _ _ _ h => h)) (pk_cons (pv 11) (pk_cons (pv 7) (pk_cons (pe_ix ix_tup (pv 5) pe_int (fun _ _ => rfl)) (pk_cons (pe_ix ix_tup (pv 4) pe_int (fun _ _ => rfl)) pk_nil)))))))) (pss_one (ps_ret pe_bl)) pss_nil)
        (pss_one (ps_if (PW.pt (pw_and (pt_not (pt_val (pe_callB (cr_all rfl) (by rfl) ba PyProof.Rows.boot_all (pa_cons (pe_lc (own := [("part", 12)]) (g := gName 12) (tt := tYes) (te := tOp (rIxT K) (tVar 12) (tC (.int 0))) rfl scRight.nd (pi_list (pv 10)) (blkOk_by (N := ["pot", "rules", "kinds", "lap", "rule", "kind", "numbers", "goal", "is_number", "is_fine", "parts", "value", "part"]) (sc := defScope sRight) (by decide +kernel)) (fun _ _ _ _ _ => pg_name (i := 12) scRight.nd rfl (Or.inl rfl)) (fun _ _ _ _ _ => pts_nil) (fun _ _ _ _ _ => pe_ix ix_tup (pv 12) pe_int (fun _ _ => rfl))) pa_nil)))) (pw_and1 (pt_not (pt_val (pe_lamW (tb := fun E1 => tCall (spBrk c) [] E1 (tCons (tOp (rIxT K) (tVar 4) (tC (.int 2))) (tCons (tOp (rIxT K) (tVar 5) (tC (.int 2))) (tCons (tVar 7) tNil)))) (CXl := L2N.CX P w) (j := m) (T := [(P0, lamQ)]) GT hr (by rfl) gT kT bT .nil pass0 (pa_cons (pv 10) pa_nil) TB rfl (List.mem_singleton.mpr (congrArg (Prod.mk P0) (lamQ_eq _ _ _))) (fun p hp _ => by rw [List.mem_singleton.mp hp]; exact (lamQ_eq _ _ _).symm) (lamS_by (sc := defScope sRight) (by decide +kernel)) rfl (fun _ _ _ _ _ => rfl)
            (fun A' outer' s' H' E' f' c' hr' => pe_call GB hr' (by rfl) gB kB bB .nil (L2N.passes_call (L2N.takes_of rfl rfl rfl rfl) (fun _ _ _ _ h => h)) (pa_cons (pe_ix ix_tup (pv 4) pe_int (fun _ _ => rfl)) (pa_cons (pe_ix ix_tup (pv 5) pe_int (fun _ _ => rfl)) (pa_cons (pv 7) pa_nil)))))))))) (pss_one (ps_ret pe_bl)) pss_nil))))))))))))
        (pss_one (ps_ret pe_bl))))), ?_⟩
    refine rs_set ?_
    refine lst_use hP.some (fun pr xr H1 s1 er nr xr' => ?_) mkOdd (by decide)
    refine rs_set ?_
    refine lst_use (same_some s1 hP.some) (fun pk xk H2 s2 ek nk xk' => ?_) mkOdd (by decide)
    have er2 := s2 _ _ er
    have xr2 := DxAll.keep (.of s2) _ _ xr'
    have hP2 := (hP.same s1).same s2
    have hT2 := tabs_same (tabs_same hT s1) s2
    have s02 := s1.trans s2
    clear er xr' s2 s1 hT
    refine rs_rng 0 8 (fun H' => H' = H2) (fun i σ' H' => ∃ o3 o4 o5 o6 o7 o8 o9 o10 o11 o12, σ' = [some (.ref a), some (.ref pr), some (.ref pk), o3, o4, o5, o6, o7, o8, o9, o10, o11, o12] ∧ ExtA a H H' ∧ Pot H' a (N + 20 * i) ∧ Tabs [(P0, lamQ)] H' ∧ H' pr = some (.lst xr) ∧ H' pk = some (.lst xk) ∧ DxAll a H' xr rulesOdd ∧ DxAll a H' xk kindsOdd)
      (fun R hR => ⟨8, rfl, by decide, by decide, hR _ rfl⟩) (fun H' e => ⟨none, none, none, none, none, none, none, none, none, none, rfl, by rw [e]; exact .ofS s02, by rw [e]; exact hP2, by rw [e]; exact hT2, by rw [e]; exact er2, by rw [e]; exact ek, by rw [e]; exact xr2, by rw [e]; exact xk'⟩) ?_ ?_
    · clear er2 xr2 hP2 hT2 s02 ek xk' hP
      rintro i σ' H3 hi ⟨o3, o4, o5, o6, o7, o8, o9, o10, o11, o12, rfl, sx3, hP3, hT3, er3, ek3, xr3, xk3⟩
      refine r_gname ?_
      refine rs_set ?_
      refine r_call (r_cons ⟨.ref a, rfl, r_cons (r_c (r_cons (lst_use hP3.some (fun p4 xs4 H4 s4 e4 n4 x4 => ⟨.ref pr, rfl, ?_⟩) (mkA_cons (mk_c rfl) (mkA_cons (mk_c rfl) (mkA_cons (mk_c rfl) (mkA_cons (mk_c rfl) (mkA_cons (mk_c rfl) (mkA_cons (mk_c rfl) mkA_nil)))))) (by decide))))⟩)
      refine ⟨a, p4, pr, wordK 0, xs4, xr, rulesFine, rulesOdd, N + 20 * i, rfl, hP3.same s4, by omega, e4, s4 _ _ er3, Ne.symm n4, Ne.symm nr, x4, DxAll.keep (.of s4) _ _ xr3, by decide, by decide, by decide, by decide, fun qr br vr dr H5 s5 P5 nq5 eq5 dx5 f1 f2 => ?_⟩
      have s35 : SameX a H3 H5 := (SameX.of s4).trans s5
      have ek5 := s35 _ _ nk ek3
      have er5 := s35 _ _ nr er3
      have xr5 := DxAll.keep s35 _ _ xr3
      have xk5 := DxAll.keep s35 _ _ xk3
      have sx5 := sx3.trans (.ofX s35)
      have hT5 := tabs_sx hT3 hP3 s35
      clear s35 s4 s5 e4 x4 xr3 xk3 ek3 er3 hT3 hP3 sx3
      refine rs_set ?_
      refine r_call (r_cons ⟨.ref a, rfl, r_cons (r_c (r_cons (lst_use P5.some (fun p6 xs6 H6 s6 e6 n6 x6 => ⟨.ref pk, rfl, ?_⟩) (mkA_cons (mk_c rfl) (mkA_cons (mk_c rfl) (mkA_cons (mk_c rfl) (mkA_cons (mk_c rfl) mkA_nil)))) (by decide))))⟩)
      refine ⟨a, p6, pk, wordK 1, xs6, xk, kindsFine, kindsOdd, N + 20 * i + 2, rfl, P5.same s6, by omega, e6, s6 _ _ ek5, Ne.symm n6, Ne.symm nk, x6, DxAll.keep (.of s6) _ _ xk5, by decide, by decide, by decide, by decide, fun qk bk vk dk H7 s7 P7 nq7 eq7 dx7 f3 f4 => ?_⟩
      have s57 : SameX a H5 H7 := (SameX.of s6).trans s7
      have ek7 := s57 _ _ nk ek5
      have er7 := s57 _ _ nr er5
      have xr7 := DxAll.keep s57 _ _ xr5
      have xk7 := DxAll.keep s57 _ _ xk5
      have er7' := s57 _ _ nq5 eq5
      have dxr7 := Dx.keep s57 _ _ dx5
      have sx7 := sx5.trans (.ofX s57)
      have hT7 := tabs_sx hT5 P5 s57
      clear s57 s6 s7 e6 x6 xr5 xk5 ek5 er5 hT5 P5 sx5 eq5 dx5
      refine rs_set ?_
      refine lst_use P7.some (fun pn xn H8 s8 en nn xn' => ?_) (mkA_cons (mk_c rfl) (mkA_cons (mk_c rfl) (mkA_cons (mk_c rfl) (mkA_cons (mk_c rfl) (mkA_cons mk_neg (mkA_cons (mk_c rfl) (mkA_cons (mk_c rfl) (mkA_cons (mk_c rfl) (mkA_cons (mk_c rfl) (mkA_cons (mk_tup (mkA_cons (mk_c rfl) mkA_nil) (by decide)) (mkA_cons (mk_lst mkA_nil (by decide)) (mkA_cons mk_pow mkA_nil)))))))))))) (by decide)
      have ln := xn'.length
      refine rs_set ?_
      refine ⟨.ref a, rfl, .ref pn, rfl, .inl ⟨a, pn, xn, N + 20 * i + 2 + 2, rfl, P7.same s8, by omega, sql_of en, Ne.symm nn, by rw [ln]; decide, by rw [ln]; decide, fun ig vg H9 hvg s9 P9 => ?_⟩⟩
      obtain ⟨dg, hdg, dxg⟩ := DxAll.at xn' hvg
      have s79 : SameX a H7 H9 := (SameX.of s8).trans s9
      have dxg := Dx.keep s9 _ _ dxg
      have ek9 := s79 _ _ nk ek7
      have er9 := s79 _ _ nr er7
      have xr9 := DxAll.keep s79 _ _ xr7
      have xk9 := DxAll.keep s79 _ _ xk7
      have er9' := s79 _ _ nq5 er7'
      have dxr9 := Dx.keep s79 _ _ dxr7
      have ek9' := s79 _ _ nq7 eq7
      have dxk9 := Dx.keep s79 _ _ dx7
      have sx9 := sx7.trans (.ofX s79)
      have hT9 := tabs_sx hT7 P7 s79
      clear s79 s8 s9 en xn' xr7 xk7 ek7 er7 hT7 P7 sx7 er7' dxr7 eq7 dx7 hvg
      -- is it a number
      refine rs_set ?_
      have num : ∀ (σ' : L2.St) (Q' : VK), σ'[7]? = some (some vg) → Q' (.bl (isIntD dg && !isBoolD dg)) H9 → tAndV (tCB (rIsi K) (tCons (tVar 7) (tCons (tC (.ty "int")) tNil))) (tNotV (tCB (rIsi K) (tCons (tVar 7) (tCons (tC (.ty "bool")) tNil)))) σ' H9 Q' := fun σ' Q' h7 hq => by
        refine ⟨vg, h7, vg, .ty "int", .type (tyD dg), .type "int", isIntD dg, rfl, .ty _, dxg.tyx, kit_int dg, isIntD dg, rfl, ?_⟩
        cases hi : isIntD dg with
        | true =>
          rw [if_pos rfl]
          refine ⟨vg, h7, vg, .ty "bool", .type (tyD dg), .type "bool", isBoolD dg, rfl, .ty _, dxg.tyx, kit_bool dg, isBoolD dg, rfl, ?_⟩
          rw [hi] at hq
          exact hq
        | false =>
          rw [if_neg Bool.false_ne_true]
          rw [hi] at hq
          exact hq
      refine num _ _ rfl ?_
      clear num
      -- is it fine
      refine rs_set ?_
      refine ⟨.bl (isIntD dg && !isBoolD dg), rfl, _, rfl, ?_⟩
      have fineQ : ∀ (Q' : VK), Q' (.bl (goalD dk dg)) H9 → (if (isIntD dg && !isBoolD dg) = true then tIf (tTest (tOp rEqTx (tOp (rIxT K) (tVar 5) (tC (.int 2))) (tC (.str "parted")))) (tOp rEq (tVar 7) (tC (.int 0))) (tChain (rI0 fun i j => .bl (decide (i ≤ j))) (rI0 fun i j => .bl (decide (i ≤ j))) (tC (.int 1)) (tVar 7) (tC (.int 40)))
          [some (.ref a), some (.ref pr), some (.ref pk), some (.int (0 + (i : Int))), some (.ref qr), some (.ref qk), some (.ref pn), some vg, some (.bl (isIntD dg && !isBoolD dg)), o9, o10, o11, o12] H9 Q' else Q' (.bl false) H9) := fun Q' hq => by
        cases hb : (isIntD dg && !isBoolD dg) with
        | false =>
          rw [if_neg Bool.false_ne_true]
          have e : goalD dk dg = false := by
            rw [goal_tx]
            cases dg <;> first | (split <;> rfl) | cases hb
          rw [e] at hq
          exact hq
        | true =>
          rw [if_pos rfl]
          obtain ⟨g, rfl⟩ : ∃ g, dg = .int g := by
            cases dg with
            | int g => exact ⟨g, rfl⟩
            | _ => cases hb
          obtain rfl := dxg.int
          refine ⟨.ref qk, rfl, qk, _, 2, vk, rfl, rfl, sqt_of ek9', atI_nat (j := 2) rfl, a, dk, "parted", dxk9, rfl, _, rfl, ?_⟩
          rw [goal_tx] at hq
          cases ht : isTx "parted" dk with
          | true =>
            rw [ht, if_pos rfl] at hq
            show if true = true then _ else _
            rw [if_pos rfl]
            refine ⟨.int g, rfl, rfl, ?_⟩
            have e : decide (V.int g = V.int 0) = withinD 0 0 (.int g) := by
              show _ = decide (0 ≤ g ∧ g ≤ 0)
              rw [decide_eq_decide]
              exact ⟨fun y => by rw [V.int.inj y]; decide, fun y => by rw [show g = 0 by omega]⟩
            rw [e]
            exact hq
          | false =>
            rw [ht, if_neg Bool.false_ne_true] at hq
            show if false = true then _ else _
            rw [if_neg Bool.false_ne_true]
            refine ⟨.int g, rfl, 1, g, rfl, rfl, decide (1 ≤ g), rfl, ?_⟩
            by_cases h1 : (1 : Int) ≤ g
            · rw [decide_eq_true h1]
              refine ⟨g, 40, rfl, rfl, ?_⟩
              have e : decide (g ≤ 40) = withinD 1 40 (.int g) := by simp [withinD, h1]
              show Q' (.bl (decide (g ≤ 40))) H9
              rw [e]; exact hq
            · rw [decide_eq_false h1]
              have e : withinD 1 40 (.int g) = false := decide_eq_false fun z => h1 z.1
              rw [e] at hq; exact hq
      refine fineQ _ ?_
      clear fineQ
      have hbr := rule_flag f1 f2
      have hbk := kind_flag f3 f4
      have fr := part_fine f1 f2 (fun d hd => fine_of (by rcases hd with h | h; exact .inr (.inr (.inl h)); exact .inl h))
      have fk := part_fine f3 f4 (fun d hd => fine_of (by rcases hd with h | h; exact .inr (.inr (.inr (.inl h))); exact .inr (.inl h)))
      have fg := fine_of (.inr (.inr (.inr (.inr hdg))))
      clear f1 f2 f3 f4 hdg
      -- the parts
      refine rs_set ?_
      refine ⟨.ref qr, rfl, .ref qk, rfl, .bl (goalD dk dg), rfl, vg, rfl, by show 3 ≤ sizeLine; decide, fun qg nqg => ⟨by show 3 ≤ sizeLine; decide, fun pl npl => ?_⟩⟩
      have s10 := (same_upd (o := .tup [.bl (goalD dk dg), .str "number", vg]) nqg).trans (same_upd (o := .lst [.ref qr, .ref qk, .ref qg]) npl)
      have epl : (upd (upd H9 qg (.tup [.bl (goalD dk dg), .str "number", vg])) pl (.lst [.ref qr, .ref qk, .ref qg])) pl = some (.lst [.ref qr, .ref qk, .ref qg]) := upd_same
      have eqg : (upd (upd H9 qg (.tup [.bl (goalD dk dg), .str "number", vg])) pl (.lst [.ref qr, .ref qk, .ref qg])) qg = some (.tup [.bl (goalD dk dg), .str "number", vg]) := (same_upd npl) _ _ upd_same
      have npl9 : pl ≠ a := fun z => by rw [z] at npl; exact (P9.same (same_upd nqg)).some npl
      have nqg9 : qg ≠ a := fun z => by rw [z] at nqg; exact P9.some nqg
      generalize (upd (upd H9 qg (.tup [.bl (goalD dk dg), .str "number", vg])) pl (.lst [.ref qr, .ref qk, .ref qg])) = H10 at s10 epl eqg ⊢
      have P10 := P9.same s10
      have hT10 := tabs_same hT9 s10
      have sx10 := sx9.trans (.ofS s10)
      have ek10 := s10 _ _ ek9
      have er10 := s10 _ _ er9
      have xr10 := DxAll.keep (.of s10) _ _ xr9
      have xk10 := DxAll.keep (.of s10) _ _ xk9
      have er10' := s10 _ _ er9'
      have dxr10 := Dx.keep (.of s10) _ _ dxr9
      have ek10' := s10 _ _ ek9'
      have dxk10 := Dx.keep (.of s10) _ _ dxk9
      have dxg10 := Dx.keep (.of s10) _ _ dxg
      clear nqg npl s10 P9 hT9 sx9 ek9 er9 xr9 xk9 er9' dxr9 ek9' dxk9 dxg
      -- what is shown
      refine rs_set ?_
      refine ⟨.ref a, rfl, fun hx hd nhx nhd nhe => ?_⟩
      have s11 : Same H10 (upd (upd H10 hd (.own hx)) hx (.ins C hd [])) := fun b o e => by rw [upd_ne (ne_of_none e nhx), upd_ne (ne_of_none e nhd)]; exact e
      refine ⟨hx, hd, [.come sA []], by rw [comeA]; rfl, histA, by decide, upd_same, fun H11 wh sX => ⟨rfl, ?_⟩⟩
      have s12 : Same H10 H11 := fun b o e => sX b o (ne_of_none e nhx) (s11 b o e)
      refine ⟨by show 3 ≤ sizeLine; decide, fun lp nlp => ?_⟩
      have s13 := s12.trans (same_upd (o := .lst [.non, .str "come a", .ref hx]) nlp)
      have wh13 := wh.keep (same_upd (o := .lst [.non, .str "come a", .ref hx]) nlp)
      have elp : (upd H11 lp (.lst [.non, .str "come a", .ref hx])) lp = some (.lst [.non, .str "come a", .ref hx]) := upd_same
      have nlp11 : lp ≠ a := fun z => by rw [z] at nlp; exact (P10.same s12).some nlp
      generalize (upd H11 lp (.lst [.non, .str "come a", .ref hx])) = H13 at s13 wh13 elp ⊢
      clear s11 s12 wh sX nlp nhx nhd nhe
      refine .inl ⟨a, lp, _, N + 20 * i + 2 + 2 + 1, rfl, P10.same s13, by omega, sql_of elp, Ne.symm nlp11, by show 0 < 3; decide, by show 3 < _; decide, fun iv vv H14 hvv s14 P14 => ?_⟩
      have sh13 : ShowV C H13 vv := by
        match iv, hvv with
        | 0, h => cases h; exact .non
        | 1, h => cases h; exact .str _
        | 2, h => cases h; exact .his wh13
        | iv + 3, h => simp at h
      have sh := sh13.ext (P10.same s13) (.ofX s14)
      have s104 : SameX a H10 H14 := (SameX.of s13).trans s14
      have hT14 := tabs_sx hT10 P10 s104
      have sx14 := sx10.trans (.ofX s104)
      have ek14 := s104 _ _ nk ek10
      have er14 := s104 _ _ nr er10
      have xr14 := DxAll.keep s104 _ _ xr10
      have xk14 := DxAll.keep s104 _ _ xk10
      have er14' := s104 _ _ nq5 er10'
      have dxr14 := Dx.keep s104 _ _ dxr10
      have ek14' := s104 _ _ nq7 ek10'
      have dxk14 := Dx.keep s104 _ _ dxk10
      have dxg14 := Dx.keep s104 _ _ dxg10
      have epl14 := s104 _ _ npl9 epl
      have eqg14 := s104 _ _ nqg9 eqg
      clear s104 s13 s14 hT10 sx10 ek10 er10 xr10 xk10 er10' dxr10 ek10' dxk10 dxg10 epl eqg P10 elp sh13 wh13 hvv
      -- the first call
      refine rs_no ?_
      refine ⟨hT14, fun f1 c1 H15 s15 hT15 hc1 => ⟨.ref pl, rfl, fun fs1 h1 ac1 => ?_⟩⟩
      have sA : ExtA a H14 H15 := .ofN s15
      have P15 := P14.ext s15
      have sx15 := sx14.trans sA
      have ek15 := sA.lst nk ek14
      have er15 := sA.lst nr er14
      have xr15 := DxAll.ext sA _ _ xr14
      have xk15 := DxAll.ext sA _ _ xk14
      have er15' := sA.tupl nq5 er14'
      have dxr15 := Dx.ext sA _ _ dxr14
      have ek15' := sA.tupl nq7 ek14'
      have dxk15 := Dx.ext sA _ _ dxk14
      have dxg15 := Dx.ext sA _ _ dxg14
      have epl15 := sA.lst npl9 epl14
      have eqg15 := sA.tupl nqg9 eqg14
      have sh15 := sh.ext P14 sA
      clear sA s15 hT14 sx14 ek14 er14 xr14 xk14 er14' dxr14 ek14' dxk14 dxg14 epl14 eqg14 P14 sh
      refine ⟨f1, pl, _, _, qr, qk, qg, br, bk, goalD dk dg, vr, vk, vg, dr, dk, dg, a, rfl, ac1, fun H' sx => sx _ _ hc1, epl15, er15', ek15', eqg15, dxr15, dxk15, dxg15, fr, fk, fg, fun H' E1 Q1 s' g1 g2 => ?_, fun H16 s16 => ⟨true, rfl, ?_⟩⟩
      · refine ⟨vv, rfl, vg, rfl, .ref qk, rfl, qk, _, 2, vk, rfl, rfl, sqt_of (s' _ _ ek15'), atI_nat (j := 2) rfl, .ref qr, rfl, qr, _, 2, vr, rfl, rfl, sqt_of (s' _ _ er15'), atI_nat (j := 2) rfl, ?_⟩
        refine ⟨vr, vk, vg, vv, a, dr, dk, dg, rfl, Dx.keep (.of s') _ _ dxr15, Dx.keep (.of s') _ _ dxk15, Dx.keep (.of s') _ _ dxg15, sh15.keep s', fun e v H2 s2 => ?_, fun i' e v hv dd H2 s2 nd => ?_⟩
        · rw [brk_first, hbr, hbk] at e
          exact g1 e v H2 s2
        · rw [brk_first, hbr, hbk] at e
          exact g2 i' e v hv dd H2 s2 nd
      have P16 := P15.same s16
      have hT16 := tabs_same hT15 s16
      have sx16 := sx15.trans (.ofS s16)
      have ek16 := s16 _ _ ek15
      have er16 := s16 _ _ er15
      have xr16 := DxAll.keep (.of s16) _ _ xr15
      have xk16 := DxAll.keep (.of s16) _ _ xk15
      have er16' := s16 _ _ er15'
      have dxr16 := Dx.keep (.of s16) _ _ dxr15
      have ek16' := s16 _ _ ek15'
      have dxk16 := Dx.keep (.of s16) _ _ dxk15
      have dxg16 := Dx.keep (.of s16) _ _ dxg15
      have epl16 := s16 _ _ epl15
      have eqg16 := s16 _ _ eqg15
      clear s16 hT15 sx15 ek15 er15 xr15 xk15 er15' dxr15 ek15' dxk15 dxg15 epl15 eqg15 P15 sh15 ac1 hc1
      show if false = true then _ else _
      rw [if_neg Bool.false_ne_true]
      -- all of them fine?
      refine rs_end ?_
      refine ⟨.ref pl, rfl, pl, rfl, ⟨_, sql_of epl16⟩, fun D nD => lc_list (K := K) (xs := [.ref qr, .ref qk, .ref qg]) (fun i H' => Same H16 H' ∧ H' D = some (.lst (([br, bk, goalD dk dg].take i).map V.bl))) ⟨same_upd nD, upd_same⟩ (fun i H' _ w => sql_of (w.1 _ _ epl16)) ?_ ?_⟩
      · rintro i v H' hx ⟨sx, eD⟩
        obtain ⟨q', b', z', v', hv, eq', hb'⟩ : ∃ q' b' z' v', v = .ref q' ∧ H16 q' = some (.tup [.bl b', .str z', v']) ∧ [br, bk, goalD dk dg][i]? = some b' := by
          match i, hx with
          | 0, hx => cases hx; exact ⟨_, _, _, _, rfl, er16', rfl⟩
          | 1, hx => cases hx; exact ⟨_, _, _, _, rfl, ek16', rfl⟩
          | 2, hx => cases hx; exact ⟨_, _, _, _, rfl, eqg16, rfl⟩
          | i + 3, hx => simp at hx
        subst hv
        refine ⟨rfl, r_yes ?_⟩
        refine ⟨.ref q', rfl, q', _, 0, .bl b', rfl, rfl, sqt_of (sx _ _ eq'), atI_nat (j := 0) rfl, _, eD, smallM (by rw [List.length_map, List.length_take]; show min _ 3 ≤ _; omega), fun b o e => by rw [upd_ne (ne_of_none e nD)]; exact sx _ _ e, ?_⟩
        rw [upd_same, take_snoc hb', List.map_append]; rfl
      rintro H17 ⟨s17, eD⟩
      have eD : H17 D = some (.lst ([br, bk, goalD dk dg].map V.bl)) := eD
      refine ⟨D, [br, bk, goalD dk dg], rfl, sql_of eD, _, rfl, ?_⟩
      have P17 := P16.same s17
      have hT17 := tabs_same hT16 s17
      have sx17 := sx16.trans (.ofS s17)
      have ek17 := s17 _ _ ek16
      have er17 := s17 _ _ er16
      have xr17 := DxAll.keep (.of s17) _ _ xr16
      have xk17 := DxAll.keep (.of s17) _ _ xk16
      have er17' := s17 _ _ er16'
      have dxr17 := Dx.keep (.of s17) _ _ dxr16
      have ek17' := s17 _ _ ek16'
      have dxk17 := Dx.keep (.of s17) _ _ dxk16
      have dxg17 := Dx.keep (.of s17) _ _ dxg16
      have epl17 := s17 _ _ epl16
      have eqg17 := s17 _ _ eqg16
      clear s17 hT16 sx16 ek16 er16 xr16 xk16 er16' dxr16 ek16' dxk16 dxg16 epl16 eqg16 P16 eD nD
      cases hall : ([br, bk, goalD dk dg].all id) with
      | true =>
        show if false = true then _ else _
        rw [if_neg Bool.false_ne_true]
        exact ⟨_, _, _, _, _, _, _, _, _, _, rfl, sx17, P17.mono (by omega), hT17, er17, ek17, xr17, xk17⟩
      | false =>
        have hnb : firstBad br bk (goalD dk dg) ≠ none := fun e => by
          cases br <;> cases bk <;> cases hg : goalD dk dg <;> simp_all [firstBad]
        show if true = true then _ else _
        rw [if_pos rfl]
        refine ⟨hT17, fun f1 c1 H18 s18 hT18 hc1 => ⟨.ref pl, rfl, fun fs1 h1 ac1 => ?_⟩⟩
        have sA : ExtA a H17 H18 := .ofN s18
        have P18 := P17.ext s18
        have sx18 := sx17.trans sA
        have ek18 := sA.lst nk ek17
        have er18 := sA.lst nr er17
        have xr18 := DxAll.ext sA _ _ xr17
        have xk18 := DxAll.ext sA _ _ xk17
        have er18' := sA.tupl nq5 er17'
        have dxr18 := Dx.ext sA _ _ dxr17
        have ek18' := sA.tupl nq7 ek17'
        have dxk18 := Dx.ext sA _ _ dxk17
        have dxg18 := Dx.ext sA _ _ dxg17
        have epl18 := sA.lst npl9 epl17
        have eqg18 := sA.tupl nqg9 eqg17
        refine ⟨f1, pl, _, _, qr, qk, qg, br, bk, goalD dk dg, vr, vk, vg, dr, dk, dg, a, rfl, ac1, fun H' sx => sx _ _ hc1, epl18, er18', ek18', eqg18, dxr18, dxk18, dxg18, fr, fk, fg, fun H' E1 Q1 s' g1 g2 => ?_, fun H19 s19 => ⟨true, rfl, ?_⟩⟩
        · refine ⟨.ref qr, rfl, qr, _, 2, vr, rfl, rfl, sqt_of (s' _ _ er18'), atI_nat (j := 2) rfl, .ref qk, rfl, qk, _, 2, vk, rfl, rfl, sqt_of (s' _ _ ek18'), atI_nat (j := 2) rfl, vg, rfl, ?_⟩
          refine ⟨vr, vk, vg, a, dr, dk, dg, rfl, Dx.keep (.of s') _ _ dxr18, Dx.keep (.of s') _ _ dxk18, Dx.keep (.of s') _ _ dxg18, by rw [brk_first, hbr, hbk]; exact hnb, fun i' e v hv dd H2 s2 nd => ?_⟩
          rw [brk_first, hbr, hbk] at e
          exact g2 i' e v hv dd H2 s2 nd
        show if false = true then _ else _
        rw [if_neg Bool.false_ne_true]
        exact ⟨_, _, _, _, _, _, _, _, _, _, rfl, sx18.trans (.ofS s19), (P18.same s19).mono (by omega), tabs_same hT18 s19, s19 _ _ er18, s19 _ _ ek18, DxAll.keep (.of s19) _ _ xr18, DxAll.keep (.of s19) _ _ xk18⟩
    · rintro σ' H3 ⟨o3, o4, o5, o6, o7, o8, o9, o10, o11, o12, rfl, sx3, hP3, hT3, er3, ek3, xr3, xk3⟩
      exact q H3 sx3 (hP3.mono (by omega)) hT3
end
end Hw

set_option Elab.async false
set_option linter.all false
set_option maxRecDepth 100000
set_option maxHeartbeats 4000000
namespace Hw
open PySem L2 LamX PyProof.Rows
abbrev sLaw : Stmt := topS 65
theorem ExtN.seq {K : PySem.W.Frag} {H H' : Hp} {a : Addr} {xs : List V} (s : ExtN H H') (h : SqL K H a xs) : SqL K H' a xs := by
  rcases h with (h | ⟨o, h⟩) | h
  · exact .inl (.inl (s _ _ h (fun _ z => nomatch z)))
  · exact .inl (.inr ⟨o, s _ _ h (fun _ z => nomatch z)⟩)
  · exact .inr h
theorem ExtN.lst {b : Addr} {H H' : Hp} {xs : List V} (s : ExtN H H') (e : H b = some (.lst xs)) : H' b = some (.lst xs) := s _ _ e (fun _ z => nomatch z)
theorem tabs_put {T : List (Addr × Str)} {H : Hp} {D : Addr} {xs ys : List V} (t : Tabs T H) (e : H D = some (.lst xs)) : Tabs T (upd H D (.lst ys)) := fun x hx => by
  obtain ⟨ps, h1, h2, h3⟩ := t x hx
  refine ⟨ps, by rw [upd_ne (fun z => by rw [z, e] at h1; cases h1)]; exact h1, h2, fun pos cv ec => ?_⟩
  obtain ⟨c, e1, e2⟩ := h3 pos cv ec
  refine ⟨c, e1, ?_⟩
  rw [upd_ne (fun z => ?_)]
  · exact e2
  · rw [z, e] at e2
    have e3 : HO.lst _ = HO.ext _ := Option.some.inj e2
    cases e3
def spLawT (K : PySem.W.Frag) (T : List (Addr × Str)) : Sp := fun vs H Q _ => ∃ (a : Addr) (ns : List Int), vs = [.ref a] ∧ SqL K H a (ns.map V.int) ∧ ns.length ≤ 63 ∧ Tabs T H ∧ ∀ H', Q (.bl true) H'
section
variable {P : Program} {w : World} {K : PySem.W.Frag} {mg : Str → Option Value} {base : Heap}
theorem scLaw : FnScope ["script", "place"] ["script"] (defScope sLaw) := ⟨rfl, rfl, rfl, by decide +kernel, rfl, by decide +kernel, by decide +kernel⟩
theorem ok_law {T : List (Addr × Str)} {f fP fC fR : Addr} {fd fdP fdC fdR : FuncData} {k : Nat} (F : L2.Fun K "law" "law" sLaw f fd) (ba : mg "all" = none)
    (GP : FnOk P w K mg base CX0 k fP fdP ["script", "place"] (spPot K)) (gP : mg "_law_pot" = some (.ref fP)) (kP : PySem.W.keepIn K (.ref fP) = true) (bP : Binds K fdP ["script", "place"] [])
    (GC : FnOk P w K mg base CX0 k fC fdC ["script", "most"] (spCells K)) (gC : mg "_law_cells" = some (.ref fC)) (kC : PySem.W.keepIn K (.ref fC) = true) (bC : Binds K fdC ["script", "most"] [])
    (GR : FnG P w K mg base CX0 k fR fdR ["pot"] (spRightT T)) (gR : mg "_law_right" = some (.ref fR)) (kR : PySem.W.keepIn K (.ref fR) = true) (bR : Binds K fdR ["pot"] []) :
    FnG P w K mg base CX0 (k + 1) f fd ["script"] (spLawT K T) := by
  refine funG F scLaw (fun vs H Q E h => ?_) (fun cdv A outer s H vs Q E hg h => ?_)
  · obtain ⟨a, ns, rfl, _⟩ := h
    rfl
  · obtain ⟨a, ns, rfl, hS, hl, hT, q⟩ := h
    have hr := hg.r
    refine ⟨_, pss_one (ps_ret (pe_callB (cr_all rfl) (by rfl) ba PyProof.Rows.boot_all (pa_cons (pe_lc (own := [("place", 1)]) (g := gName 1) (tt := tYes) rfl scLaw.nd
      (pi_list (pe_call GC hr (by rfl) gC kC bC .nil pass0 (pa_cons (pv 0) (pa_cons pe_int pa_nil)))) (blkOk_by (N := ["script", "place"]) (sc := defScope sLaw) (by decide +kernel))
      (fun _ _ _ _ _ => pg_name (i := 1) scLaw.nd rfl (Or.inl rfl)) (fun _ _ _ _ _ => pts_nil)
      (fun _ _ _ _ _ => pe_callG GR hg (by rfl) gR kR bR .nil pass0 (pa_cons (pe_call GP hr (by rfl) gP kP bP .nil pass0 (pa_cons (pv 0) (pa_cons (pv 1) pa_nil))) pa_nil))) pa_nil))), ?_⟩
    refine r_ret ?_
    refine ⟨.ref a, rfl, a, ns.map V.int, 3, rfl, hS, by rw [List.length_map]; exact hl, by decide, by decide, fun n p H1 n0 n3 s1 np hp => ?_⟩
    refine ⟨p, rfl, ⟨_, sql_of hp⟩, fun D hD => ?_⟩
    have lenr : ((List.range n).map fun i : Nat => V.int (i : Int)).length = n := by rw [List.length_map, List.length_range]
    refine lc_list (xs := (List.range n).map fun i : Nat => V.int (i : Int)) (fun i H' => ExtN H1 H' ∧ Tabs T H' ∧ H' D = some (.lst (List.replicate i (.bl true)))) ⟨ExtN.ofS (same_upd hD), tabs_same (tabs_same hT s1) (same_upd hD), upd_same⟩ (fun i H' _ h => sql_of (ExtN.lst h.1 hp)) ?_ ?_
    · rintro i x H2 hx ⟨s2, hT2, eD⟩
      rw [List.getElem?_map] at hx
      have hi : i < n := by
        cases e : (List.range n)[i]? with
        | none => rw [e] at hx; cases hx
        | some y =>
          have z := (List.getElem?_eq_some_iff.mp e).1
          rwa [List.length_range] at z
      rw [List.getElem?_range hi] at hx
      obtain rfl : V.int (i : Int) = x := Option.some.inj hx
      refine ⟨rfl, ?_⟩
      refine r_yes ?_
      have hS2 : SqL K H2 a (ns.map V.int) := ExtN.seq s2 (s1.seq hS)
      refine r_call (r_cons (r_call (r_cons (r_var (v := .ref a) rfl (r_cons (r_var (v := .int (i : Int)) rfl ⟨a, ns, i, rfl, hS2, hl, by omega, by omega, fun pp H3 s3 np3 hp3 => ?_⟩))))))
      refine ⟨pp, 0, rfl, hp3, by decide, tabs_same hT2 s3, fun H4 s4 _ hT4 => ?_⟩
      have e4 : H4 D = some (.lst (List.replicate i (.bl true))) := s4.lst (ne_of_none eD np3) (s3 _ _ eD)
      refine ⟨_, e4, small1000 (by rw [List.length_replicate]; omega), fun b o e n => ?_, tabs_put hT4 e4, ?_⟩
      · have nb : b ≠ D := ne_of_none e hD
        rw [upd_ne nb]
        have e2 := s2 _ _ e n
        exact s4 _ _ (ne_of_none e2 np3) n (s3 _ _ e2)
      · rw [upd_same, ← List.replicate_succ']
    · rintro H2 ⟨s2, hT2, eD⟩
      rw [lenr] at eD
      refine ⟨D, List.replicate n true, rfl, sql_of (by rw [eD, List.map_replicate]), ?_⟩
      have e : (List.replicate n true).all id = true := by simp
      rw [e]
      exact q H2
end
end Hw

set_option Elab.async false
set_option linter.all false
set_option maxRecDepth 100000
set_option maxHeartbeats 4000000
namespace Hw
open PySem L2 PyProof.Rows
theorem sub_bt {K : PySem.W.Frag} {T : String} {C : Addr} {l : List Value} (h : fastBuiltinMro T = some l) (hl : l.contains (.ref C) = false) : PySem.W.subIn K (.type T) (.ref C) = some false := by
  show (fastBuiltinMro T).map (·.contains (.ref C)) = some false
  rw [h]
  show some (l.contains (.ref C)) = some false
  rw [hl]
theorem kit_no {K : PySem.W.Frag} {T : String} {C : Addr} (hd : PySem.W.hasDictIn K C = true) (hy : PySem.W.typeIn K (.ref C) = some (.type "type")) (hs : PySem.W.subIn K (.type T) (.ref C) = some false) : PySem.W.kitOne K (.type T) (.ref C) = some false := by
  have hc : (PySem.W.clsIn K C).isSome = true := by
    obtain ⟨cd, hc, _⟩ := PySem.W.any_some hd
    rw [hc]; rfl
  unfold PySem.W.kitOne
  rw [if_neg (by simp)]
  show (if ((PySem.W.clsIn K C).isSome && PySem.W.typeIn K (.ref C) == some (.type "type")) = true then PySem.W.subIn K (.type T) (.ref C) else none) = some false
  rw [if_pos (by rw [hc, hy]; simp), hs]

theorem all_mk {l : PySem.W.OpenLaw} {w : World} {K : PySem.W.Frag} {h : Heap} {mg : Str → Option Value} {fa C S f0 f1 f2 f3 f4 f5 f6 f7 f8 f9 f10 f11 f12 f13 f14 f15 f16 f17 f18 f19 f20 f21 f22 f23 f24 f25 f26 fCm0 fSm0 fSm1 fSm2 : Addr} {CS fI E0 E1 E2 T0 T1 D0 D0_0 D0_1 D0_2 D0_3 D0_4 D0_5 cc25 P25 : Addr} (X : K.In h) (G : h.Ns mainGlobals mg) (hfa : mg "law" = some (.ref fa))
    {odI anI : Option Addr} {slI : Array (Option Value)} {ocI kVI dcI pmI cdI ctI : Value} {es0 : Array DictEntry} {en0 : Nat}
    {od0 an0 od1 an1 od2 an2 od3 an3 od4 an4 od5 an5 od6 an6 od7 an7 od8 an8 od9 an9 od10 an10 od11 an11 od12 an12 od13 an13 od14 an14 od15 an15 od16 an16 od17 an17 od18 an18 od19 an19 od20 an20 od21 an21 od22 an22 od23 an23 od24 an24 od25 an25 od26 an26 odCm0 anCm0 odSm0 anSm0 odSm1 anSm1 odSm2 anSm2 : Option Addr} {sl0 sl1 sl2 sl3 sl4 sl5 sl6 sl7 sl8 sl9 sl10 sl11 sl12 sl13 sl14 sl15 sl16 sl17 sl18 sl19 sl20 sl21 sl22 sl23 sl24 sl25 sl26 slCm0 slSm0 slSm1 slSm2 : Array (Option Value)} {oc0 kV0 dc0 pm0 cd0 ct0 oc1 kV1 dc1 pm1 cd1 ct1 oc2 kV2 dc2 pm2 cd2 ct2 oc3 kV3 dc3 pm3 cd3 ct3 oc4 kV4 dc4 pm4 cd4 ct4 oc5 kV5 dc5 pm5 cd5 ct5 oc6 kV6 dc6 pm6 cd6 ct6 oc7 kV7 dc7 pm7 cd7 ct7 oc8 kV8 dc8 pm8 cd8 ct8 oc9 kV9 dc9 pm9 cd9 ct9 oc10 kV10 dc10 pm10 cd10 ct10 oc11 kV11 dc11 pm11 cd11 ct11 oc12 kV12 dc12 pm12 cd12 ct12 oc13 kV13 dc13 pm13 cd13 ct13 oc14 kV14 dc14 pm14 cd14 ct14 oc15 kV15 dc15 pm15 cd15 ct15 oc16 kV16 dc16 pm16 cd16 ct16 oc17 kV17 dc17 pm17 cd17 ct17 oc18 kV18 dc18 pm18 cd18 ct18 oc19 kV19 dc19 pm19 cd19 ct19 oc20 kV20 dc20 pm20 cd20 ct20 oc21 kV21 dc21 pm21 cd21 ct21 oc22 kV22 dc22 pm22 cd22 ct22 oc23 kV23 dc23 pm23 cd23 ct23 oc24 kV24 dc24 pm24 cd24 ct24 oc25 kV25 dc25 pm25 ct25 oc26 kV26 dc26 pm26 cd26 ct26 ocCm0 kVCm0 dcCm0 pmCm0 cdCm0 ctCm0 ocSm0 kVSm0 dcSm0 pmSm0 cdSm0 ctSm0 ocSm1 kVSm1 dcSm1 pmSm1 cdSm1 ctSm1 ocSm2 kVSm2 dcSm2 pmSm2 cdSm2 ctSm2 : Value} {tk0 tk1 tk2 tk3 : Tok}
    (a0 : PySem.W.nsIn K mainGlobals "is_name" = some (some (.ref f0)))
    (l0 : K.lookup f0 = some ⟨oc0, od0, .func (PySem.W.fnOf "is_name" "is_name" (defArgs sIsName) (defBody sIsName) (defScope sIsName) .none kV0 dc0 pm0 an0 cd0 ct0), sl0⟩)
    (c0 : PySem.W.codeIn K cd0 "is_name" = true)
    (k0 : PySem.W.keepIn K (.ref f0) = true)
    (a1 : PySem.W.nsIn K mainGlobals "is_within" = some (some (.ref f1)))
    (l1 : K.lookup f1 = some ⟨oc1, od1, .func (PySem.W.fnOf "is_within" "is_within" (defArgs sWithin) (defBody sWithin) (defScope sWithin) .none kV1 dc1 pm1 an1 cd1 ct1), sl1⟩)
    (c1 : PySem.W.codeIn K cd1 "is_within" = true)
    (k1 : PySem.W.keepIn K (.ref f1) = true)
    (a2 : PySem.W.nsIn K mainGlobals "ascends" = some (some (.ref f2)))
    (l2 : K.lookup f2 = some ⟨oc2, od2, .func (PySem.W.fnOf "ascends" "ascends" (defArgs sAsc) (defBody sAsc) (defScope sAsc) .none kV2 dc2 pm2 an2 cd2 ct2), sl2⟩)
    (c2 : PySem.W.codeIn K cd2 "ascends" = true)
    (k2 : PySem.W.keepIn K (.ref f2) = true)
    (a3 : PySem.W.nsIn K mainGlobals "is_living" = some (some (.ref f3)))
    (l3 : K.lookup f3 = some ⟨oc3, od3, .func (PySem.W.fnOf "is_living" "is_living" (defArgs sIsLiv) (defBody sIsLiv) (defScope sIsLiv) .none kV3 dc3 pm3 an3 cd3 ct3), sl3⟩)
    (c3 : PySem.W.codeIn K cd3 "is_living" = true)
    (k3 : PySem.W.keepIn K (.ref f3) = true)
    (a4 : PySem.W.nsIn K mainGlobals "are_living" = some (some (.ref f4)))
    (l4 : K.lookup f4 = some ⟨oc4, od4, .func (PySem.W.fnOf "are_living" "are_living" (defArgs sAreLiv) (defBody sAreLiv) (defScope sAreLiv) .none kV4 dc4 pm4 an4 cd4 ct4), sl4⟩)
    (c4 : PySem.W.codeIn K cd4 "are_living" = true)
    (k4 : PySem.W.keepIn K (.ref f4) = true)
    (a5 : PySem.W.nsIn K mainGlobals "can_come" = some (some (.ref f5)))
    (l5 : K.lookup f5 = some ⟨oc5, od5, .func (PySem.W.fnOf "can_come" "can_come" (defArgs sCanCome) (defBody sCanCome) (defScope sCanCome) .none kV5 dc5 pm5 an5 cd5 ct5), sl5⟩)
    (c5 : PySem.W.codeIn K cd5 "can_come" = true)
    (k5 : PySem.W.keepIn K (.ref f5) = true)
    (a6 : PySem.W.nsIn K mainGlobals "can_stand" = some (some (.ref f6)))
    (l6 : K.lookup f6 = some ⟨oc6, od6, .func (PySem.W.fnOf "can_stand" "can_stand" (defArgs sCanStand) (defBody sCanStand) (defScope sCanStand) .none kV6 dc6 pm6 an6 cd6 ct6), sl6⟩)
    (c6 : PySem.W.codeIn K cd6 "can_stand" = true)
    (k6 : PySem.W.keepIn K (.ref f6) = true)
    (a7 : PySem.W.nsIn K mainGlobals "read_deed" = some (some (.ref f7)))
    (l7 : K.lookup f7 = some ⟨oc7, od7, .func (PySem.W.fnOf "read_deed" "read_deed" (defArgs sReadD1) (defBody sReadD1) (defScope sReadD1) .none kV7 dc7 pm7 an7 cd7 ct7), sl7⟩)
    (c7 : PySem.W.codeIn K cd7 "read_deed" = true)
    (k7 : PySem.W.keepIn K (.ref f7) = true)
    (a8 : PySem.W.nsIn K mainGlobals "read_deeds" = some (some (.ref f8)))
    (l8 : K.lookup f8 = some ⟨oc8, od8, .func (PySem.W.fnOf "read_deeds" "read_deeds" (defArgs sReadDs) (defBody sReadDs) (defScope sReadDs) .none kV8 dc8 pm8 an8 cd8 ct8), sl8⟩)
    (c8 : PySem.W.codeIn K cd8 "read_deeds" = true)
    (k8 : PySem.W.keepIn K (.ref f8) = true)
    (a9 : PySem.W.nsIn K mainGlobals "lives_behind" = some (some (.ref f9)))
    (l9 : K.lookup f9 = some ⟨oc9, od9, .func (PySem.W.fnOf "lives_behind" "lives_behind" (defArgs sLivesB) (defBody sLivesB) (defScope sLivesB) .none kV9 dc9 pm9 an9 cd9 ct9), sl9⟩)
    (c9 : PySem.W.codeIn K cd9 "lives_behind" = true)
    (k9 : PySem.W.keepIn K (.ref f9) = true)
    (a10 : PySem.W.nsIn K mainGlobals "names_that" = some (some (.ref f10)))
    (l10 : K.lookup f10 = some ⟨oc10, od10, .func (PySem.W.fnOf "names_that" "names_that" (defArgs sNamesT) (defBody sNamesT) (defScope sNamesT) .none kV10 dc10 pm10 an10 cd10 ct10), sl10⟩)
    (c10 : PySem.W.codeIn K cd10 "names_that" = true)
    (k10 : PySem.W.keepIn K (.ref f10) = true)
    (a11 : PySem.W.nsIn K mainGlobals "check_rule" = some (some (.ref f11)))
    (l11 : K.lookup f11 = some ⟨oc11, od11, .func (PySem.W.fnOf "check_rule" "check_rule" (defArgs sChkR) (defBody sChkR) (defScope sChkR) .none kV11 dc11 pm11 an11 cd11 ct11), sl11⟩)
    (c11 : PySem.W.codeIn K cd11 "check_rule" = true)
    (k11 : PySem.W.keepIn K (.ref f11) = true)
    (a12 : PySem.W.nsIn K mainGlobals "played_by" = some (some (.ref f12)))
    (l12 : K.lookup f12 = some ⟨oc12, od12, .func (PySem.W.fnOf "played_by" "played_by" (defArgs sPlayed) (defBody sPlayed) (defScope sPlayed) .none kV12 dc12 pm12 an12 cd12 ct12), sl12⟩)
    (c12 : PySem.W.codeIn K cd12 "played_by" = true)
    (k12 : PySem.W.keepIn K (.ref f12) = true)
    (a13 : PySem.W.nsIn K mainGlobals "check_break" = some (some (.ref f13)))
    (l13 : K.lookup f13 = some ⟨oc13, od13, .func (PySem.W.fnOf "check_break" "check_break" (defArgs sChkB) (defBody sChkB) (defScope sChkB) .none kV13 dc13 pm13 an13 cd13 ct13), sl13⟩)
    (c13 : PySem.W.codeIn K cd13 "check_break" = true)
    (k13 : PySem.W.keepIn K (.ref f13) = true)
    (a14 : PySem.W.nsIn K mainGlobals "breaker" = some (some (.ref f14)))
    (l14 : K.lookup f14 = some ⟨oc14, od14, .func (PySem.W.fnOf "breaker" "breaker" (defArgs sBrk) (defBody sBrk) (defScope sBrk) .none kV14 dc14 pm14 an14 cd14 ct14), sl14⟩)
    (c14 : PySem.W.codeIn K cd14 "breaker" = true)
    (k14 : PySem.W.keepIn K (.ref f14) = true)
    (a15 : PySem.W.nsIn K mainGlobals "shows_breaker" = some (some (.ref f15)))
    (l15 : K.lookup f15 = some ⟨oc15, od15, .func (PySem.W.fnOf "shows_breaker" "shows_breaker" (defArgs sShows) (defBody sShows) (defScope sShows) .none kV15 dc15 pm15 an15 cd15 ct15), sl15⟩)
    (c15 : PySem.W.codeIn K cd15 "shows_breaker" = true)
    (k15 : PySem.W.keepIn K (.ref f15) = true)
    (a16 : PySem.W.nsIn K mainGlobals "breaks" = some (some (.ref f16)))
    (l16 : K.lookup f16 = some ⟨oc16, od16, .func (PySem.W.fnOf "breaks" "breaks" (defArgs sBreaks) (defBody sBreaks) (defScope sBreaks) .none kV16 dc16 pm16 an16 cd16 ct16), sl16⟩)
    (c16 : PySem.W.codeIn K cd16 "breaks" = true)
    (k16 : PySem.W.keepIn K (.ref f16) = true)
    (a17 : PySem.W.nsIn K mainGlobals "may_break" = some (some (.ref f17)))
    (l17 : K.lookup f17 = some ⟨oc17, od17, .func (PySem.W.fnOf "may_break" "may_break" (defArgs sMayB) (defBody sMayB) (defScope sMayB) .none kV17 dc17 pm17 an17 cd17 ct17), sl17⟩)
    (c17 : PySem.W.codeIn K cd17 "may_break" = true)
    (k17 : PySem.W.keepIn K (.ref f17) = true)
    (a18 : PySem.W.nsIn K mainGlobals "_law_pot" = some (some (.ref f18)))
    (l18 : K.lookup f18 = some ⟨oc18, od18, .func (PySem.W.fnOf "_law_pot" "_law_pot" (defArgs sPot) (defBody sPot) (defScope sPot) .none kV18 dc18 pm18 an18 cd18 ct18), sl18⟩)
    (c18 : PySem.W.codeIn K cd18 "_law_pot" = true)
    (k18 : PySem.W.keepIn K (.ref f18) = true)
    (a19 : PySem.W.nsIn K mainGlobals "_law_take" = some (some (.ref f19)))
    (l19 : K.lookup f19 = some ⟨oc19, od19, .func (PySem.W.fnOf "_law_take" "_law_take" (defArgs sTake) (defBody sTake) (defScope sTake) .none kV19 dc19 pm19 an19 cd19 ct19), sl19⟩)
    (c19 : PySem.W.codeIn K cd19 "_law_take" = true)
    (k19 : PySem.W.keepIn K (.ref f19) = true)
    (a20 : PySem.W.nsIn K mainGlobals "_law_of" = some (some (.ref f20)))
    (l20 : K.lookup f20 = some ⟨oc20, od20, .func (PySem.W.fnOf "_law_of" "_law_of" (defArgs sOf) (defBody sOf) (defScope sOf) .none kV20 dc20 pm20 an20 cd20 ct20), sl20⟩)
    (c20 : PySem.W.codeIn K cd20 "_law_of" = true)
    (k20 : PySem.W.keepIn K (.ref f20) = true)
    (a21 : PySem.W.nsIn K mainGlobals "_law_cells" = some (some (.ref f21)))
    (l21 : K.lookup f21 = some ⟨oc21, od21, .func (PySem.W.fnOf "_law_cells" "_law_cells" (defArgs sCells) (defBody sCells) (defScope sCells) .none kV21 dc21 pm21 an21 cd21 ct21), sl21⟩)
    (c21 : PySem.W.codeIn K cd21 "_law_cells" = true)
    (k21 : PySem.W.keepIn K (.ref f21) = true)
    (a22 : PySem.W.nsIn K mainGlobals "_law_heard" = some (some (.ref f22)))
    (l22 : K.lookup f22 = some ⟨oc22, od22, .func (PySem.W.fnOf "_law_heard" "_law_heard" (defArgs sHeard) (defBody sHeard) (defScope sHeard) .none kV22 dc22 pm22 an22 cd22 ct22), sl22⟩)
    (c22 : PySem.W.codeIn K cd22 "_law_heard" = true)
    (k22 : PySem.W.keepIn K (.ref f22) = true)
    (a23 : PySem.W.nsIn K mainGlobals "_law_is_told" = some (some (.ref f23)))
    (l23 : K.lookup f23 = some ⟨oc23, od23, .func (PySem.W.fnOf "_law_is_told" "_law_is_told" (defArgs sTold) (defBody sTold) (defScope sTold) .none kV23 dc23 pm23 an23 cd23 ct23), sl23⟩)
    (c23 : PySem.W.codeIn K cd23 "_law_is_told" = true)
    (k23 : PySem.W.keepIn K (.ref f23) = true)
    (a24 : PySem.W.nsIn K mainGlobals "_law_part" = some (some (.ref f24)))
    (l24 : K.lookup f24 = some ⟨oc24, od24, .func (PySem.W.fnOf "_law_part" "_law_part" (defArgs sPart) (defBody sPart) (defScope sPart) .none kV24 dc24 pm24 an24 cd24 ct24), sl24⟩)
    (c24 : PySem.W.codeIn K cd24 "_law_part" = true)
    (k24 : PySem.W.keepIn K (.ref f24) = true)
    (a25 : PySem.W.nsIn K mainGlobals "_law_right" = some (some (.ref f25)))
    (l25 : K.lookup f25 = some ⟨oc25, od25, .func (PySem.W.fnOf "_law_right" "_law_right" (defArgs sRight) (defBody sRight) (defScope sRight) .none kV25 dc25 pm25 an25 (.ref cc25) ct25), sl25⟩)
    (c25 : PySem.W.codeIn K (.ref cc25) "_law_right" = true)
    (k25 : PySem.W.keepIn K (.ref f25) = true)
    (a26 : PySem.W.nsIn K mainGlobals "law" = some (some (.ref f26)))
    (l26 : K.lookup f26 = some ⟨oc26, od26, .func (PySem.W.fnOf "law" "law" (defArgs sLaw) (defBody sLaw) (defScope sLaw) .none kV26 dc26 pm26 an26 cd26 ct26), sl26⟩)
    (c26 : PySem.W.codeIn K cd26 "law" = true)
    (k26 : PySem.W.keepIn K (.ref f26) = true)
    (aC : PySem.W.nsIn K mainGlobals "History" = some (some (.ref C)))
    (aCm0 : PySem.W.findIn K (.ref C) "__init__" = some (some (.ref fCm0)))
    (lCm0 : K.lookup fCm0 = some ⟨ocCm0, odCm0, .func (PySem.W.fnOf "__init__" "History.__init__" (defArgs sInitH) (defBody sInitH) (defScope sInitH) .none kVCm0 dcCm0 pmCm0 anCm0 cdCm0 ctCm0), slCm0⟩)
    (cCm0 : PySem.W.codeIn K cdCm0 "History.__init__" = true)
    (kCm0 : PySem.W.keepIn K (.ref fCm0) = true)
    (iCm0 : PySem.W.isFn K (.ref fCm0) = true)
    (pgC : PySem.W.plainGet K C Str.empty = true)
    (hdC : PySem.W.hasDictIn K C = true)
    (poC : PySem.W.plainOver K C = true)
    (saC : PySem.W.findIn K (.ref C) "__setattr__" = some (some (.builtin "object.__setattr__")))
    (mkC : PySem.W.makesIn K C = true)
    (kCC : PySem.W.keepIn K (.ref C) = true)
    (eNC : PySem.W.findIn K (.ref C) "__ne__" = some (some (.builtin "object.__ne__")))
    (eHC : PySem.W.findIn K (.ref C) "__class__" = some (some (.builtin "object.__class__")))
    (eMC : PySem.W.mroIn K C (.type "object") = some true)
    (eYC : PySem.W.typeIn K (.ref C) = some (.type "type"))
    (nC_text : PySem.W.findIn K (.ref C) "text" = some none)
    (nC_deeds : PySem.W.findIn K (.ref C) "deeds" = some none)
    (nC_living : PySem.W.findIn K (.ref C) "living" = some none)
    (nC_dead : PySem.W.findIn K (.ref C) "dead" = some none)
    (fCS_ : PySem.W.notFirst K C (.type "str") = true)
    (fCN_ : PySem.W.notFirst K C (.type "NoneType") = true)
    (fCT_ : PySem.W.notFirst K C (.type "tuple") = true)
    (fCI_ : PySem.W.notFirst K C (.type "int") = true)
    (aS : PySem.W.nsIn K mainGlobals "Scene" = some (some (.ref S)))
    (aSm0 : PySem.W.findIn K (.ref S) "__init__" = some (some (.ref fSm0)))
    (lSm0 : K.lookup fSm0 = some ⟨ocSm0, odSm0, .func (PySem.W.fnOf "__init__" "Scene.__init__" (defArgs sScI) (defBody sScI) (defScope sScI) .none kVSm0 dcSm0 pmSm0 anSm0 cdSm0 ctSm0), slSm0⟩)
    (cSm0 : PySem.W.codeIn K cdSm0 "Scene.__init__" = true)
    (kSm0 : PySem.W.keepIn K (.ref fSm0) = true)
    (iSm0 : PySem.W.isFn K (.ref fSm0) = true)
    (aSm1 : PySem.W.findIn K (.ref S) "go_on" = some (some (.ref fSm1)))
    (lSm1 : K.lookup fSm1 = some ⟨ocSm1, odSm1, .func (PySem.W.fnOf "go_on" "Scene.go_on" (defArgs sGoOn) (defBody sGoOn) (defScope sGoOn) .none kVSm1 dcSm1 pmSm1 anSm1 cdSm1 ctSm1), slSm1⟩)
    (cSm1 : PySem.W.codeIn K cdSm1 "Scene.go_on" = true)
    (kSm1 : PySem.W.keepIn K (.ref fSm1) = true)
    (iSm1 : PySem.W.isFn K (.ref fSm1) = true)
    (aSm2 : PySem.W.findIn K (.ref S) "_come" = some (some (.ref fSm2)))
    (lSm2 : K.lookup fSm2 = some ⟨ocSm2, odSm2, .func (PySem.W.fnOf "_come" "Scene._come" (defArgs sComeS) (defBody sComeS) (defScope sComeS) .none kVSm2 dcSm2 pmSm2 anSm2 cdSm2 ctSm2), slSm2⟩)
    (cSm2 : PySem.W.codeIn K cdSm2 "Scene._come" = true)
    (kSm2 : PySem.W.keepIn K (.ref fSm2) = true)
    (iSm2 : PySem.W.isFn K (.ref fSm2) = true)
    (pgS : PySem.W.plainGet K S Str.empty = true)
    (hdS : PySem.W.hasDictIn K S = true)
    (poS : PySem.W.plainOver K S = true)
    (saS : PySem.W.findIn K (.ref S) "__setattr__" = some (some (.builtin "object.__setattr__")))
    (mkS : PySem.W.makesIn K S = true)
    (kCS : PySem.W.keepIn K (.ref S) = true)
    (eNS : PySem.W.findIn K (.ref S) "__ne__" = some (some (.builtin "object.__ne__")))
    (eHS : PySem.W.findIn K (.ref S) "__class__" = some (some (.builtin "object.__class__")))
    (eMS : PySem.W.mroIn K S (.type "object") = some true)
    (eYS : PySem.W.typeIn K (.ref S) = some (.type "type"))
    (nS_living : PySem.W.findIn K (.ref S) "living" = some none)
    (nS_many : PySem.W.findIn K (.ref S) "many" = some none)
    (nS_elder : PySem.W.findIn K (.ref S) "elder" = some none)
    (nS_far : PySem.W.findIn K (.ref S) "far" = some none)
    (fSS_ : PySem.W.notFirst K S (.type "str") = true)
    (fSN_ : PySem.W.notFirst K S (.type "NoneType") = true)
    (fST_ : PySem.W.notFirst K S (.type "tuple") = true)
    (fSI_ : PySem.W.notFirst K S (.type "int") = true)
    (eG : PySem.W.specialIn K (.builtin "object.__class__") "__get__" = some (some (.builtin "getset_descriptor.__get__")))
    (eT : PySem.W.takesIn K (.builtin "object.__class__") = some true)
    (g_LONGEST_NAME : PySem.W.nsIn K mainGlobals "LONGEST_NAME" = some (some (.int 8 tk0)))
    (g_MOST_PLACES : PySem.W.nsIn K mainGlobals "MOST_PLACES" = some (some (.int 200 tk1)))
    (g_MOST_DEEDS : PySem.W.nsIn K mainGlobals "MOST_DEEDS" = some (some (.int 400 tk2)))
    (g_MOST_GOAL : PySem.W.nsIn K mainGlobals "MOST_GOAL" = some (some (.int 40 tk3)))
    (z0 : PySem.W.nsIn K mainGlobals "len" = some none)
    (z1 : PySem.W.nsIn K mainGlobals "sum" = some none)
    (z2 : PySem.W.nsIn K mainGlobals "int" = some none)
    (z3 : PySem.W.nsIn K mainGlobals "abs" = some none)
    (z4 : PySem.W.nsIn K mainGlobals "list" = some none)
    (z5 : PySem.W.nsIn K mainGlobals "range" = some none)
    (z6 : PySem.W.nsIn K mainGlobals "max" = some none)
    (z7 : PySem.W.nsIn K mainGlobals "min" = some none)
    (z8 : PySem.W.nsIn K mainGlobals "isinstance" = some none)
    (z9 : PySem.W.nsIn K mainGlobals "str" = some none)
    (z10 : PySem.W.nsIn K mainGlobals "tuple" = some none)
    (z11 : PySem.W.nsIn K mainGlobals "all" = some none)
    (z12 : PySem.W.nsIn K mainGlobals "zip" = some none)
    (z13 : PySem.W.nsIn K mainGlobals "enumerate" = some none)
    (z14 : PySem.W.nsIn K mainGlobals "dict" = some none)
    (z15 : PySem.W.nsIn K mainGlobals "sorted" = some none)
    (z16 : PySem.W.nsIn K mainGlobals "repr" = some none)
    (z17 : PySem.W.nsIn K mainGlobals "bool" = some none)
    (aCS : PySem.W.nsIn K mainGlobals "HealError" = some (some (.ref CS)))
    (aE0 : PySem.W.nsIn K mainGlobals "BadRule" = some (some (.ref E0)))
    (aE1 : PySem.W.nsIn K mainGlobals "BadKind" = some (some (.ref E1)))
    (aE2 : PySem.W.nsIn K mainGlobals "BadNumber" = some (some (.ref E2)))
    (iI : PySem.W.findIn K (.ref CS) "__init__" = some (some (.ref fI)))
    (lI : K.lookup fI = some ⟨ocI, odI, .func (PySem.W.fnOf "__init__" "HealError.__init__" (defArgs sIniH) (defBody sIniH) (defScope sIniH) .none kVI dcI pmI anI cdI ctI), slI⟩)
    (cI : PySem.W.codeIn K cdI "HealError.__init__" = true)
    (kI : PySem.W.keepIn K (.ref fI) = true)
    (xE0 : xclsB K fI E0 = true)
    (hE0 : caughtB K CS E0 = true)
    (tE0_0 : PySem.W.kitOne K (.ref E0) (.ref E0) = some true)
    (tE0_1 : PySem.W.kitOne K (.ref E0) (.ref E1) = some false)
    (tE0_2 : PySem.W.kitOne K (.ref E0) (.ref E2) = some false)
    (xE1 : xclsB K fI E1 = true)
    (hE1 : caughtB K CS E1 = true)
    (tE1_0 : PySem.W.kitOne K (.ref E1) (.ref E0) = some false)
    (tE1_1 : PySem.W.kitOne K (.ref E1) (.ref E1) = some true)
    (tE1_2 : PySem.W.kitOne K (.ref E1) (.ref E2) = some false)
    (xE2 : xclsB K fI E2 = true)
    (hE2 : caughtB K CS E2 = true)
    (tE2_0 : PySem.W.kitOne K (.ref E2) (.ref E0) = some false)
    (tE2_1 : PySem.W.kitOne K (.ref E2) (.ref E1) = some false)
    (tE2_2 : PySem.W.kitOne K (.ref E2) (.ref E2) = some true)
    (aT0 : PySem.W.nsIn K mainGlobals "RULES" = some (some (.ref T0)))
    (sT0 : tupStrB K T0 rulesL = true)
    (aT1 : PySem.W.nsIn K mainGlobals "BREAKS" = some (some (.ref T1)))
    (sT1 : tupStrB K T1 breaksL = true)
    (aD0 : PySem.W.nsIn K mainGlobals "NEVER" = some (some (.ref D0)))
    (lD0 : K.lookup D0 = some ⟨.type "dict", none, .dict es0 en0, #[]⟩)
    (kD0 : PySem.W.KeysLit w.params es0.toList)
    (aD0_0 : PySem.W.nsIn K D0 "none" = some (some (.ref D0_0)))
    (sD0_0 : tupStrB K D0_0 ["more", "changes"] = true)
    (aD0_1 : PySem.W.nsIn K D0 "line" = some (some (.ref D0_1)))
    (sD0_1 : tupStrB K D0_1 ["parted"] = true)
    (aD0_2 : PySem.W.nsIn K D0 "ring" = some (some (.ref D0_2)))
    (sD0_2 : tupStrB K D0_2 ["parted"] = true)
    (aD0_3 : PySem.W.nsIn K D0 "star" = some (some (.ref D0_3)))
    (sD0_3 : tupStrB K D0_3 ["far", "parted"] = true)
    (aD0_4 : PySem.W.nsIn K D0 "least" = some (some (.ref D0_4)))
    (sD0_4 : tupStrB K D0_4 ["far", "parted"] = true)
    (aD0_5 : PySem.W.nsIn K D0 "all" = some (some (.ref D0_5)))
    (sD0_5 : tupStrB K D0_5 ["far", "parted"] = true)
    (tb25 : PySem.W.tabIn K "_law_right" = some (cc25, P25))
    (hd25 : PySem.W.codeHdIn K cc25 P25 = true)
    (ow25 : K.lookup P25 = none)
    (tt25 : h.get? P25 = some { cls := .none, data := .fields #[] })
    : ∃ fd cs sp, LawG l w K 11 63 "script" mg fa h fd cs sp := by
  have e := hfa.symm.trans (PySem.W.mg_of X G a26)
  cases e
  have B : Blt mg := ⟨PySem.W.mg_none_of X G z0, PySem.W.mg_none_of X G z1, PySem.W.mg_none_of X G z2, PySem.W.mg_none_of X G z3, PySem.W.mg_none_of X G z4, PySem.W.mg_none_of X G z5, PySem.W.mg_none_of X G z6, PySem.W.mg_none_of X G z7⟩
  have B3 : Blt3 mg := ⟨PySem.W.mg_none_of X G z8, PySem.W.mg_none_of X G z9, PySem.W.mg_none_of X G z10, PySem.W.mg_none_of X G z11, PySem.W.mg_none_of X G z12, PySem.W.mg_none_of X G z13, PySem.W.mg_none_of X G z14, PySem.W.mg_none_of X G z15, ⟨_, PySem.W.mg_of X G g_LONGEST_NAME⟩, ⟨_, PySem.W.mg_of X G g_MOST_PLACES⟩⟩
  have T : TxtH K mg C := ⟨⟨pgC, hdC, poC, saC⟩, nC_text, nC_deeds, nC_living, nC_dead, PySem.W.mg_of X G aC⟩
  have TS : TxtS K mg S := ⟨⟨pgS, hdS, poS, saS⟩, nS_living, nS_many, nS_elder, nS_far, PySem.W.mg_of X G aS⟩
  have M : Mk K C fCm0 := ⟨mkC, aCm0, iCm0, kCC⟩
  have MS : Mk K S fSm0 := ⟨mkS, aSm0, iSm0, kCS⟩
  have MG : Meth K S "go_on" fSm1 := ⟨aSm1, iSm1, kSm1⟩
  have MC : Meth K S "_come" fSm2 := ⟨aSm2, iSm2, kSm2⟩
  have Cq : ClsQ K mg C := ⟨eHC, eG, eT, eMC, kit_no hdC eYC (sub_bt (l := [.type "str", .type "object"]) (by decide +kernel) (by simp)), kit_no hdC eYC (sub_bt (l := [.type "NoneType", .type "object"]) (by decide +kernel) (by simp)), kit_no hdC eYC (sub_bt (l := [.type "tuple", .type "object"]) (by decide +kernel) (by simp)), kit_no hdC eYC (sub_bt (l := [.type "int", .type "object"]) (by decide +kernel) (by simp)), fCS_, fCN_, fCT_, fCI_⟩
  have hM : ∃ t, mg "MOST_DEEDS" = some (.int 400 t) := ⟨_, PySem.W.mg_of X G g_MOST_DEEDS⟩
  have hMG : ∃ t, mg "MOST_GOAL" = some (.int 40 t) := ⟨_, PySem.W.mg_of X G g_MOST_GOAL⟩
  have F0 := fun_mk (st := sIsName) l0 c0 k0
  have b0 := F0.binds (ps := ["value"]) fun _ _ _ _ _ _ us hl => match us, hl with | [_], _ => rfl
  have F1 := fun_mk (st := sWithin) l1 c1 k1
  have b1 := F1.binds (ps := ["value", "least", "most"]) fun _ _ _ _ _ _ us hl => match us, hl with | [_, _, _], _ => rfl
  have F2 := fun_mk (st := sAsc) l2 c2 k2
  have b2 := F2.binds (ps := ["values"]) fun _ _ _ _ _ _ us hl => match us, hl with | [_], _ => rfl
  have F3 := fun_mk (st := sIsLiv) l3 c3 k3
  have b3 := F3.binds (ps := ["value", "lives"]) fun _ _ _ _ _ _ us hl => match us, hl with | [_, _], _ => rfl
  have F4 := fun_mk (st := sAreLiv) l4 c4 k4
  have b4 := F4.binds (ps := ["value", "lives"]) fun _ _ _ _ _ _ us hl => match us, hl with | [_, _], _ => rfl
  have F5 := fun_mk (st := sCanCome) l5 c5 k5
  have b5 := F5.binds (ps := ["name", "ties", "lives"]) fun _ _ _ _ _ _ us hl => match us, hl with | [_, _, _], _ => rfl
  have F6 := fun_mk (st := sCanStand) l6 c6 k6
  have b6 := F6.binds (ps := ["value", "lives", "many"]) fun _ _ _ _ _ _ us hl => match us, hl with | [_, _, _], _ => rfl
  have F7 := fun_mk (st := sReadD1) l7 c7 k7
  have b7 := F7.binds (ps := ["line"]) fun _ _ _ _ _ _ us hl => match us, hl with | [_], _ => rfl
  have F8 := fun_mk (st := sReadDs) l8 c8 k8
  have b8 := F8.binds (ps := ["text"]) fun _ _ _ _ _ _ us hl => match us, hl with | [_], _ => rfl
  have F9 := fun_mk (st := sLivesB) l9 c9 k9
  have b9 := F9.binds (ps := ["deeds"]) fun _ _ _ _ _ _ us hl => match us, hl with | [_], _ => rfl
  have F10 := fun_mk (st := sNamesT) l10 c10 k10
  have b10 := F10.binds (ps := ["live", "lives"]) fun _ _ _ _ _ _ us hl => match us, hl with | [_, _], _ => rfl
  have F11 := fun_mk (st := sChkR) l11 c11 k11
  have b11 := F11.binds (ps := ["value"]) fun _ _ _ _ _ _ us hl => match us, hl with | [_], _ => rfl
  have F12 := fun_mk (st := sPlayed) l12 c12 k12
  have b12 := F12.binds (ps := ["rule", "history"]) fun _ _ _ _ _ _ us hl => match us, hl with | [_, _], _ => rfl
  have F13 := fun_mk (st := sChkB) l13 c13 k13
  have b13 := F13.binds (ps := ["rule", "kind", "goal"]) fun _ _ _ _ _ _ us hl => match us, hl with | [_, _, _], _ => rfl
  have F14 := fun_mk (st := sBrk) l14 c14 k14
  have b14 := F14.binds (ps := ["rule", "kind", "goal"]) fun _ _ _ _ _ _ us hl => match us, hl with | [_, _, _], _ => rfl
  have F15 := fun_mk (st := sShows) l15 c15 k15
  have b15 := F15.binds (ps := ["rule", "kind", "goal", "value"]) fun _ _ _ _ _ _ us hl => match us, hl with | [_, _, _, _], _ => rfl
  have F16 := fun_mk (st := sBreaks) l16 c16 k16
  have b16 := F16.binds (ps := ["rule", "kind", "goal", "history"]) fun _ _ _ _ _ _ us hl => match us, hl with | [_, _, _, _], _ => rfl
  have F17 := fun_mk (st := sMayB) l17 c17 k17
  have b17 := F17.binds (ps := ["rule", "kind", "deed"]) fun _ _ _ _ _ _ us hl => match us, hl with | [_, _, _], _ => rfl
  have F18 := fun_mk (st := sPot) l18 c18 k18
  have b18 := F18.binds (ps := ["script", "place"]) fun _ _ _ _ _ _ us hl => match us, hl with | [_, _], _ => rfl
  have F19 := fun_mk (st := sTake) l19 c19 k19
  have b19 := F19.binds (ps := ["pot", "upto"]) fun _ _ _ _ _ _ us hl => match us, hl with | [_, _], _ => rfl
  have F20 := fun_mk (st := sOf) l20 c20 k20
  have b20 := F20.binds (ps := ["pot", "some"]) fun _ _ _ _ _ _ us hl => match us, hl with | [_, _], _ => rfl
  have F21 := fun_mk (st := sCells) l21 c21 k21
  have b21 := F21.binds (ps := ["script", "most"]) fun _ _ _ _ _ _ us hl => match us, hl with | [_, _], _ => rfl
  have F22 := fun_mk (st := sHeard) l22 c22 k22
  have b22 := F22.binds (ps := ["call"]) fun _ _ _ _ _ _ us hl => match us, hl with | [_], _ => rfl
  have F23 := fun_mk (st := sTold) l23 c23 k23
  have b23 := F23.binds (ps := ["call", "parts"]) fun _ _ _ _ _ _ us hl => match us, hl with | [_, _], _ => rfl
  have F24 := fun_mk (st := sPart) l24 c24 k24
  have b24 := F24.binds (ps := ["pot", "word", "fine", "odd"]) fun _ _ _ _ _ _ us hl => match us, hl with | [_, _, _, _], _ => rfl
  have F25 : FunC K "_law_right" "_law_right" sRight f25 _ cc25 := ⟨_, _, _, _, _, _, _, _, rfl, l25, c25⟩
  have b25 : Binds K (PySem.W.fnOf "_law_right" "_law_right" (defArgs sRight) (defBody sRight) (defScope sRight) .none kV25 dc25 pm25 an25 (.ref cc25) ct25) ["pot"] [] := .all fun us hl => match us, hl with | [_], _ => rfl
  have F26 := fun_mk (st := sLaw) l26 c26 k26
  have b26 := F26.binds (ps := ["script"]) fun _ _ _ _ _ _ us hl => match us, hl with | [_], _ => rfl
  have FCm0 := fun_mk (st := sInitH) lCm0 cCm0 kCm0
  have bCm0 := FCm0.binds (ps := ["self", "text"]) fun _ _ _ _ _ _ us hl => match us, hl with | [_, _], _ => rfl
  have FSm0 := fun_mk (st := sScI) lSm0 cSm0 kSm0
  have bSm0 := FSm0.binds (ps := ["self"]) fun _ _ _ _ _ _ us hl => match us, hl with | [_], _ => rfl
  have FSm1 := fun_mk (st := sGoOn) lSm1 cSm1 kSm1
  have bSm1 := FSm1.binds (ps := ["self", "deed"]) fun _ _ _ _ _ _ us hl => match us, hl with | [_, _], _ => rfl
  have FSm2 := fun_mk (st := sComeS) lSm2 cSm2 kSm2
  have bSm2 := FSm2.binds (ps := ["self", "name", "ties"]) fun _ _ _ _ _ _ us hl => match us, hl with | [_, _, _], _ => rfl
  have FI := fun_mk (st := sIniH) lI cI kI
  have bI := FI.binds (ps := ["self", "value"]) fun _ _ _ _ _ _ us hl => match us, hl with | [_, _], _ => rfl
  have X0 : XCls K fI E0 := xclsB_ok xE0
  have X1 : XCls K fI E1 := xclsB_ok xE1
  have X2 : XCls K fI E2 := xclsB_ok xE2
  refine ⟨(PySem.W.fnOf "law" "law" (defArgs sLaw) (defBody sLaw) (defScope sLaw) .none kV26 dc26 pm26 an26 cd26 ct26), [(cc25, P25)], (spLawT K [(P25, lamQ)]), ⟨(fun p hp => by rw [List.mem_singleton.mp hp]; exact tt25), (fun p hp => by rw [List.mem_singleton.mp hp]; exact ow25), (fun p hp => by rw [List.mem_singleton.mp hp]; exact PySem.W.codeHd_of_K X hd25), fun s v => .of_eq rfl, (fun H a ns hl _ hT hS => ⟨a, ns, rfl, hS, hl, (fun p hp => by rw [List.mem_singleton.mp hp]; exact LamX.TabS.nil (hT _ List.mem_cons_self)), fun _ => rfl⟩), fun base _ _ hTB => ?_⟩⟩
  have TB := hTB (cc25, P25) List.mem_cons_self
  have GI0 : FnOk l.prog w K mg base CX0 1 fI _ ["self", "value"] (spIniX K) := ok_iniH FI
  let c : Nat → Addr := fun i => match i with | 0 => E0 | 1 => E1 | _ => E2
  have C3 : Cls3 K CS c := ⟨fun i hi dd => match i, hi with | 0, _ => caught_by hE0 | 1, _ => caught_by hE1 | 2, _ => caught_by hE2, fun i j hi hj => match i, j, hi, hj with | 0, 0, _, _ => tE0_0 | 0, 1, _, _ => tE0_1 | 0, 2, _, _ => tE0_2 | 1, 0, _, _ => tE1_0 | 1, 1, _, _ => tE1_1 | 1, 2, _, _ => tE1_2 | 2, 0, _, _ => tE2_0 | 2, 1, _, _ => tE2_1 | 2, 2, _, _ => tE2_2⟩
  have hNev : ∀ z ∈ rulesL, ∃ (t : Addr) (xs : List Str), KDct K w D0 z (.ref t) ∧ ∀ H, SqT K H t (xs.map V.str) := by
    intro z hz
    unfold rulesL at hz
    simp only [List.mem_cons, List.mem_nil_iff, or_false] at hz
    rcases hz with rfl | rfl | rfl | rfl | rfl | rfl
    · exact ⟨D0_0, _, ⟨_, _, _, lD0, kD0, aD0_0, rfl⟩, tupStrB_ok sD0_0⟩
    · exact ⟨D0_1, _, ⟨_, _, _, lD0, kD0, aD0_1, rfl⟩, tupStrB_ok sD0_1⟩
    · exact ⟨D0_2, _, ⟨_, _, _, lD0, kD0, aD0_2, rfl⟩, tupStrB_ok sD0_2⟩
    · exact ⟨D0_3, _, ⟨_, _, _, lD0, kD0, aD0_3, rfl⟩, tupStrB_ok sD0_3⟩
    · exact ⟨D0_4, _, ⟨_, _, _, lD0, kD0, aD0_4, rfl⟩, tupStrB_ok sD0_4⟩
    · exact ⟨D0_5, _, ⟨_, _, _, lD0, kD0, aD0_5, rfl⟩, tupStrB_ok sD0_5⟩
  have G0 : FnOk l.prog w K mg base CX0 1 f0 _ ["value"] spIsName := ok_isname F0 B B3
  have G1 : FnOk l.prog w K mg base CX0 1 f1 _ ["value", "least", "most"] spWithinA := ok_withinA F1 B (PySem.W.mg_none_of X G z8) (PySem.W.mg_none_of X G z17)
  have G2 : FnOk l.prog w K mg base CX0 1 f2 _ ["values"] (spAsc K) := ok_asc F2 B3
  have G3 : FnOk l.prog w K mg base CX0 1 f3 _ ["value", "lives"] spIsLiv := ok_isliv F3 B3
  have G4 : FnOk l.prog w K mg base CX0 2 f4 _ ["value", "lives"] spAreLiv := ok_areliv F4 B3 G3 (PySem.W.mg_of X G a3) k3 b3 G2 (PySem.W.mg_of X G a2) k2 b2
  have G5 : FnOk l.prog w K mg base CX0 3 f5 _ ["name", "ties", "lives"] spCanCome := ok_cancome F5 B B3 (G0.mono (show 1 ≤ 2 by decide)) (PySem.W.mg_of X G a0) k0 b0 G4 (PySem.W.mg_of X G a4) k4 b4
  have G6 : FnOk l.prog w K mg base CX0 4 f6 _ ["value", "lives", "many"] spCanStand := ok_canstand F6 B B3 hM G5 (PySem.W.mg_of X G a5) k5 b5 (G3.mono (show 1 ≤ 3 by decide)) (PySem.W.mg_of X G a3) k3 b3
  have G7 : FnOk l.prog w K mg base CX0 1 f7 _ ["line"] spReadD1 := ok_readd1 F7 B B3
  have G8 : FnOk l.prog w K mg base CX0 5 f8 _ ["text"] spReadDs := ok_readds F8 B B3 (G7.mono (show 1 ≤ 4 by decide)) (PySem.W.mg_of X G a7) k7 b7 G6 (PySem.W.mg_of X G a6) k6 b6
  have G9 : FnOk l.prog w K mg base CX0 1 f9 _ ["deeds"] spLivesB := ok_livesb F9
  have G10 : FnOk l.prog w K mg base CX0 1 f10 _ ["live", "lives"] spNamesT := ok_namest F10 B3.sorted B3.tuple
  have GH : FnOk l.prog w K mg base CX0 6 fCm0 _ ["self", "text"] (spInitH C) := ok_initH FCm0 T G8 (PySem.W.mg_of X G a8) k8 b8 (G9.mono (show 1 ≤ 5 by decide)) (PySem.W.mg_of X G a9) k9 b9 (G10.mono (show 1 ≤ 5 by decide)) (PySem.W.mg_of X G a10) k10 b10
  have GSI : FnOk l.prog w K mg base CX0 1 fSm0 _ ["self"] (spScI S) := ok_scI FSm0 TS
  have GSC : FnOk l.prog w K mg base CX0 1 fSm2 _ ["self", "name", "ties"] (spComeS S) := ok_comeS FSm2 B TS
  have GSG : FnOk l.prog w K mg base CX0 2 fSm1 _ ["self", "deed"] (spGoOn1 S) := ok_goon1 FSm1 TS B3.sorted MC GSC bSm2
  have GSG4 := GSG.mono (show 2 ≤ 4 by decide)
  have G11 : FnOk l.prog w K mg base (L2N.CX l.prog w) 3 f11 _ ["value"] (spChkR (c 0)) := ok_chkr F11 (PySem.W.mg_none_of X G z8) (PySem.W.mg_none_of X G z9) (PySem.W.mg_of X G aT0) (tupStrB_ok sT0) X0 (PySem.W.mg_of X G aE0) GI0 bI
  have G13 : FnOk l.prog w K mg base (L2N.CX l.prog w) 4 f13 _ ["rule", "kind", "goal"] (spChkB c) := ok_chkb (c := c) (j := 1) (by decide) F13 (PySem.W.mg_none_of X G z8) (PySem.W.mg_none_of X G z9) (PySem.W.mg_of X G aT1) (tupStrB_ok sT1) hMG X1 (PySem.W.mg_of X G aE1) X2 (PySem.W.mg_of X G aE2) GI0 bI G11 (PySem.W.mg_of X G a11) k11 b11 (G1.mono (show 1 ≤ 3 by decide)) (PySem.W.mg_of X G a1) k1 b1
  have G14 : FnOk l.prog w K mg base (L2N.CX l.prog w) 5 f14 _ ["rule", "kind", "goal"] (spBrk c) := ok_brk F14 G13 (PySem.W.mg_of X G a13) k13 b13
  have G12 : FnOk l.prog w K mg base CX0 4 f12 _ ["rule", "history"] (spPlayed1 C) := ok_played1 F12 T B3.sorted B3.tuple G11 (PySem.W.mg_of X G a11) k11 b11
  have G17 : FnOk l.prog w K mg base CX0 1 f17 _ ["rule", "kind", "deed"] spMayB := ok_mayb F17 B
  have G16 : FnOk l.prog w K mg base CX0 5 f16 _ ["rule", "kind", "goal", "history"] (spBreaks C) := ok_breaks (j := 1) (by decide) F16 T TS B3.zip MS GSI bSm0 MG GSG4 bSm1 G12 (PySem.W.mg_of X G a12) k12 b12 (G17.mono (show 1 ≤ 4 by decide)) (PySem.W.mg_of X G a17) k17 b17
  have G15 : FnOk l.prog w K mg base (L2N.CX l.prog w) 6 f15 _ ["rule", "kind", "goal", "value"] (spShows c C) := ok_shows F15 (PySem.W.mg_none_of X G z8) (PySem.W.mg_of X G aD0) hNev T Cq (G13.mono (show 4 ≤ 5 by decide)) (PySem.W.mg_of X G a13) k13 b13 G16 (PySem.W.mg_of X G a16) k16 b16
  have G18 : FnOk l.prog w K mg base CX0 1 f18 _ ["script", "place"] (spPot K) := ok_pot F18 B
  have G19 : FnOk l.prog w K mg base CX0 1 f19 _ ["pot", "upto"] spTake := ok_take F19 B
  have G20 : FnOk l.prog w K mg base CX0 2 f20 _ ["pot", "some"] (spOf2 K) := ok_of2 F20 B G19 (PySem.W.mg_of X G a19) k19 b19
  have G21 : FnOk l.prog w K mg base CX0 1 f21 _ ["script", "most"] (spCells K) := ok_cells F21 B
  have G24 : FnOk l.prog w K mg base CX0 3 f24 _ ["pot", "word", "fine", "odd"] spPart := ok_part F24 (G19.mono (show 1 ≤ 2 by decide)) (PySem.W.mg_of X G a19) k19 b19 G20 (PySem.W.mg_of X G a20) k20 b20
  have G22 : FnGL l.prog w K mg base CX0 8 f22 _ ["call"] (spHeard3 l.prog w K mg base 6 CS (c 0) (c 1) (c 2) "rule" "kind" "number" "other") := ok_heard F22 (PySem.W.mg_none_of X G z8) (PySem.W.mg_of X G aCS) (PySem.W.mg_of X G aE0) (PySem.W.mg_of X G aE1) (PySem.W.mg_of X G aE2)
  have G23 : FnGL l.prog w K mg base CX0 9 f23 _ ["call", "parts"] (spTold3 l.prog w K mg base 6 CS c) := ok_told3 (m := 6) (by decide) F23 (PySem.W.mg_none_of X G z16) C3 G22 (PySem.W.mg_of X G a22) k22 b22
  have kb15 : KBinds K (PySem.W.fnOf "shows_breaker" "shows_breaker" (defArgs sShows) (defBody sShows) (defScope sShows) .none kV15 dc15 pm15 an15 cd15 ct15) ["rule", "kind", "goal", "value"] ["value", "goal", "kind", "rule"] gRv gVRv := kbR4 rfl fun s a b c d => .of_eq rfl
  have G25 : FnG l.prog w K mg base CX0 10 f25 _ ["pot"] (spRightT [(P25, lamQ)]) := ok_right (c := c) (j := 6) (m := 6) (by decide) F25 TB B (PySem.W.mg_none_of X G z8) (PySem.W.mg_none_of X G z17) B3.all T M GH bCm0 (G24.mono (show 3 ≤ 9 by decide)) (PySem.W.mg_of X G a24) k24 b24 (G20.mono (show 2 ≤ 9 by decide)) (PySem.W.mg_of X G a20) k20 b20 G23 (PySem.W.mg_of X G a23) k23 b23 G15 (PySem.W.mg_of X G a15) k15 kb15 (G14.mono (show 5 ≤ 6 by decide)) (PySem.W.mg_of X G a14) k14 b14
  exact ok_law F26 B3.all (G18.mono (show 1 ≤ 10 by decide)) (PySem.W.mg_of X G a18) k18 b18 (G21.mono (show 1 ≤ 10 by decide)) (PySem.W.mg_of X G a21) k21 b21 G25 (PySem.W.mg_of X G a25) k25 b25
end Hw

set_option Elab.async false
open PySem PySem.W PyProof.Rows
set_option maxRecDepth 100000 in
set_option maxHeartbeats 0 in
theorem PySem.Challenge.cw_healedwebs_k39_what_breakers_refuse_holds : PySem.Challenge.rw_healedwebs_k39_what_breakers_refuse.Holds := by
  w_on; o_law; k_head; (case hw => w_witness2)
  k_fill
  refine Hw.walkGT (l := PySem.Challenge.rw_healedwebs_k39_what_breakers_refuse) (n := 63) (k := 11) (x := "script") rfl (by decide) rfl ⟨rfl, by decide, by decide⟩ (fun w h Y => PySem.W.km_in_of Y) ?F
  case F =>
    intro w mg fa h Y KX G hmg
    refine' Hw.all_mk KX G hmg ?q_a0 ?q_l0 ?q_c0 ?q_k0 ?q_a1 ?q_l1 ?q_c1 ?q_k1 ?q_a2 ?q_l2 ?q_c2 ?q_k2 ?q_a3 ?q_l3 ?q_c3 ?q_k3 ?q_a4 ?q_l4 ?q_c4 ?q_k4 ?q_a5 ?q_l5 ?q_c5 ?q_k5 ?q_a6 ?q_l6 ?q_c6 ?q_k6 ?q_a7 ?q_l7 ?q_c7 ?q_k7 ?q_a8 ?q_l8 ?q_c8 ?q_k8 ?q_a9 ?q_l9 ?q_c9 ?q_k9 ?q_a10 ?q_l10 ?q_c10 ?q_k10 ?q_a11 ?q_l11 ?q_c11 ?q_k11 ?q_a12 ?q_l12 ?q_c12 ?q_k12 ?q_a13 ?q_l13 ?q_c13 ?q_k13 ?q_a14 ?q_l14 ?q_c14 ?q_k14 ?q_a15 ?q_l15 ?q_c15 ?q_k15 ?q_a16 ?q_l16 ?q_c16 ?q_k16 ?q_a17 ?q_l17 ?q_c17 ?q_k17 ?q_a18 ?q_l18 ?q_c18 ?q_k18 ?q_a19 ?q_l19 ?q_c19 ?q_k19 ?q_a20 ?q_l20 ?q_c20 ?q_k20 ?q_a21 ?q_l21 ?q_c21 ?q_k21 ?q_a22 ?q_l22 ?q_c22 ?q_k22 ?q_a23 ?q_l23 ?q_c23 ?q_k23 ?q_a24 ?q_l24 ?q_c24 ?q_k24 ?q_a25 ?q_l25 ?q_c25 ?q_k25 ?q_a26 ?q_l26 ?q_c26 ?q_k26 ?q_aC ?q_aCm0 ?q_lCm0 ?q_cCm0 ?q_kCm0 ?q_iCm0 ?q_pgC ?q_hdC ?q_poC ?q_saC ?q_mkC ?q_kCC ?q_eNC ?q_eHC ?q_eMC ?q_eYC ?q_nC_text ?q_nC_deeds ?q_nC_living ?q_nC_dead ?q_fCS_ ?q_fCN_ ?q_fCT_ ?q_fCI_ ?q_aS ?q_aSm0 ?q_lSm0 ?q_cSm0 ?q_kSm0 ?q_iSm0 ?q_aSm1 ?q_lSm1 ?q_cSm1 ?q_kSm1 ?q_iSm1 ?q_aSm2 ?q_lSm2 ?q_cSm2 ?q_kSm2 ?q_iSm2 ?q_pgS ?q_hdS ?q_poS ?q_saS ?q_mkS ?q_kCS ?q_eNS ?q_eHS ?q_eMS ?q_eYS ?q_nS_living ?q_nS_many ?q_nS_elder ?q_nS_far ?q_fSS_ ?q_fSN_ ?q_fST_ ?q_fSI_ ?q_eG ?q_eT ?q_g_LONGEST_NAME ?q_g_MOST_PLACES ?q_g_MOST_DEEDS ?q_g_MOST_GOAL ?q_z0 ?q_z1 ?q_z2 ?q_z3 ?q_z4 ?q_z5 ?q_z6 ?q_z7 ?q_z8 ?q_z9 ?q_z10 ?q_z11 ?q_z12 ?q_z13 ?q_z14 ?q_z15 ?q_z16 ?q_z17 ?q_aCS ?q_aE0 ?q_aE1 ?q_aE2 ?q_iI ?q_lI ?q_cI ?q_kI ?q_xE0 ?q_hE0 ?q_tE0_0 ?q_tE0_1 ?q_tE0_2 ?q_xE1 ?q_hE1 ?q_tE1_0 ?q_tE1_1 ?q_tE1_2 ?q_xE2 ?q_hE2 ?q_tE2_0 ?q_tE2_1 ?q_tE2_2 ?q_aT0 ?q_sT0 ?q_aT1 ?q_sT1 ?q_aD0 ?q_lD0 ?q_kD0 ?q_aD0_0 ?q_sD0_0 ?q_aD0_1 ?q_sD0_1 ?q_aD0_2 ?q_sD0_2 ?q_aD0_3 ?q_sD0_3 ?q_aD0_4 ?q_sD0_4 ?q_aD0_5 ?q_sD0_5 ?q_tb25 ?q_hd25 ?q_ow25 ?q_tt25
    (case q_a0 => k_is)
    (case q_a1 => k_is)
    (case q_a2 => k_is)
    (case q_a3 => k_is)
    (case q_a4 => k_is)
    (case q_a5 => k_is)
    (case q_a6 => k_is)
    (case q_a7 => k_is)
    (case q_a8 => k_is)
    (case q_a9 => k_is)
    (case q_a10 => k_is)
    (case q_a11 => k_is)
    (case q_a12 => k_is)
    (case q_a13 => k_is)
    (case q_a14 => k_is)
    (case q_a15 => k_is)
    (case q_a16 => k_is)
    (case q_a17 => k_is)
    (case q_a18 => k_is)
    (case q_a19 => k_is)
    (case q_a20 => k_is)
    (case q_a21 => k_is)
    (case q_a22 => k_is)
    (case q_a23 => k_is)
    (case q_a24 => k_is)
    (case q_a25 => k_is)
    (case q_a26 => k_is)
    (case q_aC => k_is)
    (case q_aS => k_is)
    (case q_aCS => k_is)
    (case q_aE0 => k_is)
    (case q_aE1 => k_is)
    (case q_aE2 => k_is)
    (case q_aT0 => k_is)
    (case q_aT1 => k_is)
    (case q_aD0 => k_is)
    (case q_aCm0 => k_is)
    (case q_aSm0 => k_is)
    (case q_aSm1 => k_is)
    (case q_aSm2 => k_is)
    (case q_iI => k_is)
    (case q_lD0 => first | k_is | kernel_rfl | rfl | decide +kernel)
    (case q_tb25 => first | k_is | kernel_rfl | rfl | decide +kernel)
    (case q_aD0_0 => k_is)
    (case q_aD0_1 => k_is)
    (case q_aD0_2 => k_is)
    (case q_aD0_3 => k_is)
    (case q_aD0_4 => k_is)
    (case q_aD0_5 => k_is)
    (case q_l0 => k_is)
    (case q_c0 => k_is)
    (case q_k0 => k_is)
    (case q_l1 => k_is)
    (case q_c1 => k_is)
    (case q_k1 => k_is)
    (case q_l2 => k_is)
    (case q_c2 => k_is)
    (case q_k2 => k_is)
    (case q_l3 => k_is)
    (case q_c3 => k_is)
    (case q_k3 => k_is)
    (case q_l4 => k_is)
    (case q_c4 => k_is)
    (case q_k4 => k_is)
    (case q_l5 => k_is)
    (case q_c5 => k_is)
    (case q_k5 => k_is)
    (case q_l6 => k_is)
    (case q_c6 => k_is)
    (case q_k6 => k_is)
    (case q_l7 => k_is)
    (case q_c7 => k_is)
    (case q_k7 => k_is)
    (case q_l8 => k_is)
    (case q_c8 => k_is)
    (case q_k8 => k_is)
    (case q_l9 => k_is)
    (case q_c9 => k_is)
    (case q_k9 => k_is)
    (case q_l10 => k_is)
    (case q_c10 => k_is)
    (case q_k10 => k_is)
    (case q_l11 => k_is)
    (case q_c11 => k_is)
    (case q_k11 => k_is)
    (case q_l12 => k_is)
    (case q_c12 => k_is)
    (case q_k12 => k_is)
    (case q_l13 => k_is)
    (case q_c13 => k_is)
    (case q_k13 => k_is)
    (case q_l14 => k_is)
    (case q_c14 => k_is)
    (case q_k14 => k_is)
    (case q_l15 => k_is)
    (case q_c15 => k_is)
    (case q_k15 => k_is)
    (case q_l16 => k_is)
    (case q_c16 => k_is)
    (case q_k16 => k_is)
    (case q_l17 => k_is)
    (case q_c17 => k_is)
    (case q_k17 => k_is)
    (case q_l18 => k_is)
    (case q_c18 => k_is)
    (case q_k18 => k_is)
    (case q_l19 => k_is)
    (case q_c19 => k_is)
    (case q_k19 => k_is)
    (case q_l20 => k_is)
    (case q_c20 => k_is)
    (case q_k20 => k_is)
    (case q_l21 => k_is)
    (case q_c21 => k_is)
    (case q_k21 => k_is)
    (case q_l22 => k_is)
    (case q_c22 => k_is)
    (case q_k22 => k_is)
    (case q_l23 => k_is)
    (case q_c23 => k_is)
    (case q_k23 => k_is)
    (case q_l24 => k_is)
    (case q_c24 => k_is)
    (case q_k24 => k_is)
    (case q_l25 => k_is)
    (case q_c25 => k_is)
    (case q_k25 => k_is)
    (case q_l26 => k_is)
    (case q_c26 => k_is)
    (case q_k26 => k_is)
    (case q_lCm0 => k_is)
    (case q_cCm0 => k_is)
    (case q_kCm0 => k_is)
    (case q_iCm0 => k_is)
    (case q_pgC => k_is)
    (case q_hdC => first | k_is | kernel_rfl | rfl | decide +kernel)
    (case q_poC => k_is)
    (case q_saC => k_is)
    (case q_mkC => k_is)
    (case q_kCC => k_is)
    (case q_eNC => k_is)
    (case q_eHC => k_is)
    (case q_eMC => k_is)
    (case q_eYC => k_is)
    (case q_nC_text => k_is)
    (case q_nC_deeds => k_is)
    (case q_nC_living => k_is)
    (case q_nC_dead => k_is)
    (case q_fCS_ => k_is)
    (case q_fCN_ => k_is)
    (case q_fCT_ => k_is)
    (case q_fCI_ => k_is)
    (case q_lSm0 => k_is)
    (case q_cSm0 => k_is)
    (case q_kSm0 => k_is)
    (case q_iSm0 => k_is)
    (case q_lSm1 => k_is)
    (case q_cSm1 => k_is)
    (case q_kSm1 => k_is)
    (case q_iSm1 => k_is)
    (case q_lSm2 => k_is)
    (case q_cSm2 => k_is)
    (case q_kSm2 => k_is)
    (case q_iSm2 => k_is)
    (case q_pgS => k_is)
    (case q_hdS => first | k_is | kernel_rfl | rfl | decide +kernel)
    (case q_poS => k_is)
    (case q_saS => k_is)
    (case q_mkS => k_is)
    (case q_kCS => k_is)
    (case q_eNS => k_is)
    (case q_eHS => k_is)
    (case q_eMS => k_is)
    (case q_eYS => k_is)
    (case q_nS_living => k_is)
    (case q_nS_many => k_is)
    (case q_nS_elder => k_is)
    (case q_nS_far => k_is)
    (case q_fSS_ => k_is)
    (case q_fSN_ => k_is)
    (case q_fST_ => k_is)
    (case q_fSI_ => k_is)
    (case q_eG => k_is)
    (case q_eT => k_is)
    (case q_g_LONGEST_NAME => k_is)
    (case q_g_MOST_PLACES => k_is)
    (case q_g_MOST_DEEDS => k_is)
    (case q_g_MOST_GOAL => k_is)
    (case q_z0 => k_is)
    (case q_z1 => k_is)
    (case q_z2 => k_is)
    (case q_z3 => k_is)
    (case q_z4 => k_is)
    (case q_z5 => k_is)
    (case q_z6 => k_is)
    (case q_z7 => k_is)
    (case q_z8 => k_is)
    (case q_z9 => k_is)
    (case q_z10 => k_is)
    (case q_z11 => k_is)
    (case q_z12 => k_is)
    (case q_z13 => k_is)
    (case q_z14 => k_is)
    (case q_z15 => k_is)
    (case q_z16 => k_is)
    (case q_z17 => k_is)
    (case q_lI => k_is)
    (case q_cI => k_is)
    (case q_kI => k_is)
    (case q_xE0 => first | k_is | kernel_rfl | rfl | decide +kernel)
    (case q_hE0 => first | k_is | kernel_rfl | rfl | decide +kernel)
    (case q_tE0_0 => first | kernel_rfl | rfl | decide +kernel)
    (case q_tE0_1 => first | kernel_rfl | rfl | decide +kernel)
    (case q_tE0_2 => first | kernel_rfl | rfl | decide +kernel)
    (case q_xE1 => first | k_is | kernel_rfl | rfl | decide +kernel)
    (case q_hE1 => first | k_is | kernel_rfl | rfl | decide +kernel)
    (case q_tE1_0 => first | kernel_rfl | rfl | decide +kernel)
    (case q_tE1_1 => first | kernel_rfl | rfl | decide +kernel)
    (case q_tE1_2 => first | kernel_rfl | rfl | decide +kernel)
    (case q_xE2 => first | k_is | kernel_rfl | rfl | decide +kernel)
    (case q_hE2 => first | k_is | kernel_rfl | rfl | decide +kernel)
    (case q_tE2_0 => first | kernel_rfl | rfl | decide +kernel)
    (case q_tE2_1 => first | kernel_rfl | rfl | decide +kernel)
    (case q_tE2_2 => first | kernel_rfl | rfl | decide +kernel)
    (case q_sT0 => first | k_is | kernel_rfl | rfl | decide +kernel)
    (case q_sT1 => first | k_is | kernel_rfl | rfl | decide +kernel)
    (case q_kD0 => repeat (first | exact trivial | refine ⟨⟨_, _, rfl, rfl⟩, ?_⟩))
    (case q_sD0_0 => first | k_is | kernel_rfl | rfl | decide +kernel)
    (case q_sD0_1 => first | k_is | kernel_rfl | rfl | decide +kernel)
    (case q_sD0_2 => first | k_is | kernel_rfl | rfl | decide +kernel)
    (case q_sD0_3 => first | k_is | kernel_rfl | rfl | decide +kernel)
    (case q_sD0_4 => first | k_is | kernel_rfl | rfl | decide +kernel)
    (case q_sD0_5 => first | k_is | kernel_rfl | rfl | decide +kernel)
    (case q_hd25 => first | k_is | kernel_rfl | rfl | decide +kernel)
    (case q_ow25 => first | k_is | kernel_rfl | rfl | decide +kernel)
    (case q_tt25 => exact PySem.W.km_tabs_of Y _ (by k_mem))
