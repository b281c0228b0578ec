import PyProof.Rows.All
import Wide.All
import OpenK.AllK
import Wide.FinOn
import HandS.ForMost
import HandS.ForExc
import HandS.DictComp
import KE.KExcIs
import HandS.ExcInit
import HandS.ExcField
import HandS.IsInst
import HandS.SetFor
import HandS.Flow
import HandS.Walk
import HandS.Evl
import HandS.Conv
import KE.GoesEnumKw
import KE.SortData
import HandS.TupLe
import Flt.Ops
import HandS.Zip
import HandS.TupAny
import PyProof.CollectIter
import KE.DataMinMax
import KE.KTupSum
import KE.GoesEnum
import HandS.OwnEq
import HandS.FStr
import HandS.Star
import HandS.WordsDict
import HandS.WideBits
import HandS.Style
import PyProof.Rows.StrJoinMade
import HandS.Lambda
import HandS.ExcCtx
import HandS.HotCalls
import HandS.Comp
import HandS.Iter
import HandS.ExcIs
import HandS.Dict
import HandS.EndTab
import PyProof.NeKinds
import HandS.DictSubView
import PyProof.Rows.RegFStrParts
import KE.KRevSl
import HandS.Deep
import PySem.Challenge.RW_healedwebs_k40_trees_for_limits
set_option Elab.async false
set_option linter.all false
set_option maxRecDepth 100000
set_option maxHeartbeats 2000000
namespace Hw
open PySem L2 PyProof.Rows

/-! generic: powers of great ints, heaps but one place -/
def CPowW (i j : Int) : Prop := 0 ≤ j ∧ (Builtin.Int.intBits i : Int) * j ≤ 2 ^ 27
theorem op_powW {X : Cx} : OpR X (binaryOp .Pow) (rI CPowW fun i j => .int (i ^ j.toNat)) :=
  opI fun _ _ _ _ _ _ _ hc q => pow_int hc.1 hc.2 q
/-- all that is tracked but at a stays -/
def SameX (a : Addr) (H H' : Hp) : Prop := ∀ b o, b ≠ a → H b = some o → H' b = some o
theorem SameX.refl (a : Addr) (H : Hp) : SameX a H H := fun _ _ _ h => h
theorem SameX.trans {a : Addr} {H H1 H2 : Hp} (x : SameX a H H1) (y : SameX a H1 H2) : SameX a H H2 := fun b o hb h => y b o hb (x b o hb h)
theorem SameX.of {a : Addr} {H H' : Hp} (s : Same H H') : SameX a H H' := fun b o _ h => s b o h
theorem SameX.put {a : Addr} {H H' : Hp} {o : HO} (s : SameX a H H') : SameX a H (upd H' a o) := fun b u hb h => by
  rw [upd_ne hb]; exact s b u hb h
theorem SameX.free {a b : Addr} {H H' : Hp} (s : SameX a H H') (ha : H' a ≠ none) (h : H' b = none) : H b = none := by
  cases q : H b with
  | none => rfl
  | some o =>
    have hb : b ≠ a := fun e => ha (e ▸ h)
    rw [s b o hb q] at h; cases h
theorem same_upd {H : Hp} {p : Addr} {o : HO} (h : H p = none) : Same H (upd H p o) := fun b x e => by
  rw [upd_ne (ne_of_none e h)]; exact e
theorem sql_of {K : PySem.W.Frag} {H : Hp} {a : Addr} {xs : List V} (h : H a = some (.lst xs)) : SqL K H a xs := .inl (.inl h)
theorem sqt_of {K : PySem.W.Frag} {H : Hp} {a : Addr} {xs : List V} (h : H a = some (.tup xs)) : SqT K H a xs := .inl (.inl h)

/-! a pot: three ints, the third at most N -/
structure Pot (H : Hp) (a : Addr) (N : Nat) : Prop where
  ex : ∃ x y z : Int, H a = some (.lst [.int x, .int y, .int z]) ∧ 0 ≤ x ∧ 0 ≤ y ∧ y < 2 ^ 61 ∧ 0 ≤ z ∧ z ≤ N
theorem Pot.mono {H : Hp} {a : Addr} {N M : Nat} (p : Pot H a N) (h : N ≤ M) : Pot H a M := by
  obtain ⟨x, y, z, e, h1, h2, h3, h4, h5⟩ := p.ex
  exact ⟨x, y, z, e, h1, h2, h3, h4, by omega⟩
theorem Pot.same {H H' : Hp} {a : Addr} {N : Nat} (p : Pot H a N) (s : Same H H') : Pot H' a N := by
  obtain ⟨x, y, z, e, h⟩ := p.ex
  exact ⟨x, y, z, s _ _ e, h⟩
theorem Pot.some {H : Hp} {a : Addr} {N : Nat} (p : Pot H a N) : H a ≠ none := by
  obtain ⟨x, y, z, e, _⟩ := p.ex
  rw [e]; exact fun q => nomatch q
/-- what a place of the script is worth to a draw: any int -/
def spPot (K : PySem.W.Frag) : Sp := fun vs H Q _ => ∃ (a : Addr) (ns : List Int) (i : Int), vs = [.ref a, .int i] ∧ SqL K H a (ns.map V.int) ∧ ns.length ≤ 63 ∧ 0 ≤ i ∧ i < 1000 ∧
  ∀ p H', Same H H' → H p = none → Pot H' p 0 → Q (.ref p) H'
/-- a draw below u -/
def spTake : Sp := fun vs H Q _ => ∃ (a : Addr) (u : Int) (N : Nat), vs = [.ref a, .int u] ∧ Pot H a N ∧ N < 1000000000 ∧ 0 < u ∧ u < 1000000000 ∧
  ∀ r H', 0 ≤ r → r < u → SameX a H H' → Pot H' a (N + 1) → Q (.int r) H'
/-- one of the items of a list -/
def spOf (K : PySem.W.Frag) : Sp := fun vs H Q _ => ∃ (a b : Addr) (xs : List V) (N : Nat), vs = [.ref a, .ref b] ∧ Pot H a N ∧ N < 1000000000 ∧ SqL K H b xs ∧ a ≠ b ∧ 0 < xs.length ∧ xs.length < 1000000000 ∧
  ∀ (i : Nat) v H', xs[i]? = some v → SameX a H H' → Pot H' a (N + 1) → Q v H'
/-- the places of the script that are looked at -/
def spCells (K : PySem.W.Frag) : Sp := fun vs H Q _ => ∃ (a : Addr) (xs : List V) (m : Int), vs = [.ref a, .int m] ∧ SqL K H a xs ∧ xs.length ≤ 63 ∧ 0 < m ∧ m < 1000 ∧
  ∀ (n : Nat) p H', 0 < n → (n : Int) ≤ m → Same H H' → H p = none → H' p = some (.lst ((List.range n).map fun i : Nat => V.int (i : Int))) → Q (.ref p) H'
theorem bits_nat {i : Int} {n : Nat} (h : i.natAbs < 2 ^ n) : Builtin.Int.intBits i ≤ n := intBits_le h
end Hw

set_option Elab.async false
set_option linter.all false
set_option maxRecDepth 100000
set_option maxHeartbeats 4000000
namespace Hw
open PySem L2 PyProof.Rows
/-! defs that know that no repr runs around them -/
structure RoomG (k : Nat) (A : Around) : Prop where
  r : Room k A
  g : A.guards = some []
theorem RoomG.mono {j k : Nat} {A : Around} (r : RoomG k A) (h : j ≤ k) : RoomG j A := ⟨r.r.mono h, r.g⟩
theorem RoomG.deeper {k : Nat} {A : Around} (r : RoomG (k + 1) A) (env : Env) : RoomG k (A.deeper env) := ⟨r.r.deeper env, r.g⟩
theorem RoomG.make {k : Nat} {A : Around} (r : RoomG (k + 1) A) (C : Addr) (us : List Value) (kw : List (Str × Value)) : RoomG k (A.under (.builtin "type.__call__" ⟨.ref C :: us, kw⟩)) :=
  ⟨r.r.make C us kw, by
    have e : (A.under (.builtin "type.__call__" ⟨.ref C :: us, kw⟩)).guards = A.guards := by
      first | rfl | simp [Around.under, Code.guards, pushGuards, Code.isGuard, guardIds]
    rw [e]; exact r.g⟩
section
variable (P : Program) (w : World) (K : PySem.W.Frag) (mg : Str → Option Value) (base : Heap)
structure FnG (CX : CXT) (k : Nat) (f : Addr) (fd : FuncData) (ps : List Str) (sp : Sp) : Prop where
  len : ∀ vs H Q E, sp vs H Q E → vs.length = ps.length
  run : ∀ (A : Around) (outer : List Env) (s : Shared) (H : Hp) (args : Args) (us : List Value) (vs : List V) (Q : VK) (E : XK), RoomG k A → Env0 P w K mg base A outer s H →
    BindsTo s fd args (ps.zip us) → Vals vs us → sp vs H Q E → codeAny (model P w) A (.call (.ref f) args) (CR CX outer P w H s Q E) s
end
section
variable {P : Program} {w : World} {K : PySem.W.Frag} {mg : Str → Option Value} {base : Heap} {CX : CXT} {k : Nat} {f : Addr} {fd : FuncData} {ps : List Str} {sp sp' : Sp}
theorem toG (F : FnOk P w K mg base CX k f fd ps sp) : FnG P w K mg base CX k f fd ps sp := ⟨F.len, fun A o s H a us vs Q E hr => F.run A o s H a us vs Q E hr.r⟩
theorem FnG.mono {j : Nat} (F : FnG P w K mg base CX j f fd ps sp) (h : j ≤ k) : FnG P w K mg base CX k f fd ps sp := ⟨F.len, fun A o s H a us vs Q E hr => F.run A o s H a us vs Q E (hr.mono h)⟩
theorem FnG.imp (F : FnG P w K mg base CX k f fd ps sp) (h : ∀ vs H Q E, sp' vs H Q E → sp vs H Q E) : FnG P w K mg base CX k f fd ps sp' :=
  ⟨fun vs H Q E q => F.len vs H Q E (h _ _ _ _ q), fun A o s H a us vs Q E hr he hb hv hs => F.run A o s H a us vs Q E hr he hb hv (h _ _ _ _ hs)⟩
end
section
variable {X : Cx} {CX : CXT} {k : Nat} {f C : Addr} {fd : FuncData} {ps : List Str} {sp : Sp} {dvs : List V} {ds : List Value} {E : XK} {x m : Str} {p pos apos : Pos} {e o : Expr} {es : List Expr} {ta : TE} {t : TA}
theorem runG {pins : List (Addr × Obj)} {σ : L2.St} {H : Hp} {s : Shared} {Q : VK} {us : List Value} {vs : List V} (F : FnG X.prog X.w X.K X.mg X.base CX k f fd ps sp) (hr : RoomG k X.A) (hb : Binds X.K fd ps ds) (hd : Vals dvs ds)
    (hx : Passes CX X E) (I : Inv X pins σ H s) (r : Vals vs us) (h : sp (vs ++ dvs) H Q E) : wpAny (model X.prog X.w) X.A (call (.ref f) us) (EP X pins σ Q) X.xe s := by
  have rr : Vals (vs ++ dvs) (us ++ ds) := r.append hd
  have ll : (us ++ ds).length = ps.length := rr.length.symm.trans (F.len _ _ _ _ h)
  refine wpAny_call (codeAny_mono (F.run X.A X.stack s H ⟨us, []⟩ (us ++ ds) (vs ++ dvs) Q E hr I.env0 (hb s us I.kIn ll) rr h) fun r' s' hq => ?_)
  match r', hq with
  | .error er, hq => exact hx pins σ H s er s' I hq
  | .ok (.ret u), hq => exact I.after hq
  | .ok .next, hq => exact False.elim hq
  | .ok .brk, hq => exact False.elim hq
  | .ok .cont, hq => exact False.elim hq
theorem pe_callG (F : FnG X.prog X.w X.K X.mg X.base CX k f fd ps sp) (hr : RoomG k X.A) (hg : Gl X x) (hm : X.mg x = some (.ref f)) (hk : PySem.W.keepIn X.K (.ref f) = true) (hb : Binds X.K fd ps ds) (hd : Vals dvs ds)
    (hx : Passes CX X E) (ha : PA X (e :: es) t) (hdb : (x == ("__debug__" : Str)) = false := by decide) (he : starEach (e :: es) X.env = (false, eval e X.env) :: starEach es X.env := by rfl)
    (hpl : (backTo pos (starEach es X.env)).any (·.1) = false := by rfl) : PE X (.Call (.Name x p) (e :: es) [] pos) (tCall sp dvs E t) :=
  ⟨fun pins s σ H Q I h => wpAny_Call_Name_kw (ld_glob I hg hm (PySem.W.callWith_K (h₀ := X.base) I.ok.mod.kin hk (thn (ha.run pos pins s σ H _ I h) fun us s1 ⟨vs, H1, I1, r, q⟩ => ⟨I1.kIn, runG F hr hb hd hx I1 r q⟩) he hpl) hdb)⟩
theorem pe_call0G (F : FnG X.prog X.w X.K X.mg X.base CX k f fd ps sp) (hr : RoomG k X.A) (hg : Gl X x) (hm : X.mg x = some (.ref f)) (hk : PySem.W.keepIn X.K (.ref f) = true) (hb : Binds X.K fd ps ds) (hd : Vals dvs ds)
    (hx : Passes CX X E) (hdb : (x == ("__debug__" : Str)) = false := by decide) : PE X (.Call (.Name x p) [] [] pos) (tCall sp dvs E tNil) :=
  ⟨fun pins s σ H Q I h => wpAny_Call_Name_kw (ld_glob I hg hm (PySem.W.callWith_K0 I.kIn hk (runG (us := []) F hr hb hd hx I .nil h)) hdb)⟩
end
/-- a def by its body -/
theorem fnG_of {CX : CXT} {P : Program} {w : World} {K : PySem.W.Frag} {mg : Str → Option Value} {base : Heap} {k : Nat} {f : Addr} {name qual : Str} {params : Arguments} {body : List Stmt} {scope : Scope} {dV kV doc pm cdv ct oc : Value} {an od : Option Addr}
    {osl : Array (Option Value)} {N ps : List Str} {sp : Sp} (lk : K.lookup f = some ⟨oc, od, .func (PySem.W.fnOf name qual params body scope dV kV doc pm an cdv ct), osl⟩) (hcd : PySem.W.codeIn K cdv qual = true)
    (S : FnScope N ps scope) (len : ∀ vs H Q E, sp vs H Q E → vs.length = ps.length)
    (hbody : ∀ (A : Around) (outer : List Env) (s : Shared) (H : Hp) (vs : List V) (Q : VK) (E : XK), RoomG k (A.deeper (envOfC qual scope s.heap.objs.size f cdv)) → sp vs H Q E →
      ∃ t, PSs (cxOf CX P w K mg base N qual scope f cdv A outer s H E) body t ∧ t { nx := fun _ H' => Q .non H', rt := Q } (start N vs) H) :
    FnG P w K mg base CX (k + 1) f (PySem.W.fnOf name qual params body scope dV kV doc pm an cdv ct) ps sp := by
  refine ⟨len, fun A outer s H args us vs Q E hr e0 hb r hsp => ?_⟩
  have nl := len _ _ _ _ hsp
  have kin : K.In s.heap := e0.mod.kin.keeps fun b o e => (e0.bs b o e).1
  have nolim : s.heap.NoLimit := e0.mod.nolimit.keeps fun b o e => (e0.bs b o e).1
  have kinds : ∀ y ∈ ps.zip us, scope.names.lookup y.1 = some .local ∨ (scope.names.lookup y.1 = some .cell ∧ ((cellsFrom (s.heap.objs.size + 1) scope.names []).lookup y.1).isSome = true) := by
    rintro ⟨n, v⟩ hy
    rcases S.par n (List.of_mem_zip hy).1 with q | q
    · left; exact q
    · right; exact ⟨q, PySem.W.cellsFrom_some _ _ _ (.inl q)⟩
  refine codeAny_call_function hr.r.depth (kin _ _ lk) rfl S.co S.gen rfl (PySem.W.codeRec_of kin hcd) (hb _ _ _ _ ?_)
  refine wpAny_newFunctionEnv_cells S.kind kinds fun env he s1 x => ?_
  subst he
  refine ⟨nolim.keeps x.toInCall.keep, codeAny_func ?_⟩
  obtain ⟨t, ht, hq⟩ := hbody A outer s H vs Q E (hr.deeper _) hsp
  have I0 : Inv (cxOf CX P w K mg base N qual scope f cdv A outer s H E) [] (start N vs) H s1 := inv_start S hr.r.hd e0 nl r x
  refine wpAny_mono (ht.run [] s1 (start N vs) H _ I0 hq) (fun fl s' hs => ?_) fun _ _ hs => hs
  have done : ∀ {σ' : L2.St} {H' : Hp} {v : V} {u : Value}, Inv (cxOf CX P w K mg base N qual scope f cdv A outer s H E) [] σ' H' s' → RelV v u → Q v H' → CE outer P w H s Q u s' :=
    fun {_ H' v _} J rv q => ⟨v, H', J.os, J.bare, J.base, J.hok, rv, q⟩
  match fl, hs with
  | .ret u, ⟨v, σ', H', J, rv, q⟩ => exact done J rv q
  | .next, ⟨σ', H', J, q⟩ => exact done (v := V.non) (u := Value.none) J rfl q
  | .brk, ⟨_, _, _, q⟩ => exact False.elim q
  | .cont, ⟨_, _, _, q⟩ => exact False.elim q
section
variable {P : Program} {w : World} {K : PySem.W.Frag} {mg : Str → Option Value} {base : Heap}
theorem funG {x qual : Str} {st : Stmt} {f : Addr} {fd : FuncData} {N ps : List Str} {k : Nat} {sp : Sp} (F : Fun K x qual st f fd) (S : FnScope N ps (defScope st)) (len : ∀ vs H Q E, sp vs H Q E → vs.length = ps.length)
    (hbody : ∀ (cdv : Value) (A : Around) (outer : List Env) (s : Shared) (H : Hp) (vs : List V) (Q : VK) (E : XK), RoomG k (A.deeper (envOfC qual (defScope st) s.heap.objs.size f cdv)) → sp vs H Q E →
      ∃ t, PSs (cxOf CX0 P w K mg base N qual (defScope st) f cdv A outer s H E).nox (defBody st) t ∧ t { nx := fun _ H' => Q .non H', rt := Q } (start N vs) H) : FnG P w K mg base CX0 (k + 1) f fd ps sp := by
  obtain ⟨oc, od, kV, doc, pm, an, cdv, ct, osl, rfl, lk, hcd⟩ := F.ex
  exact fnG_of lk hcd S len fun A outer s H vs Q E hr hsp => by
    obtain ⟨t, h, q⟩ := hbody cdv A outer s H vs Q E hr hsp
    exact ⟨t, h.nox, q⟩
theorem funGX {x qual : Str} {st : Stmt} {f : Addr} {fd : FuncData} {N ps : List Str} {k : Nat} {sp : Sp} (F : Fun K x qual st f fd) (S : FnScope N ps (defScope st)) (len : ∀ vs H Q E, sp vs H Q E → vs.length = ps.length)
    (hbody : ∀ (cdv : Value) (A : Around) (outer : List Env) (s : Shared) (H : Hp) (vs : List V) (Q : VK) (E : XK), RoomG k (A.deeper (envOfC qual (defScope st) s.heap.objs.size f cdv)) → sp vs H Q E →
      ∃ t, PSs (cxOf (L2.CX P w) P w K mg base N qual (defScope st) f cdv A outer s H E) (defBody st) t ∧ t { nx := fun _ H' => Q .non H', rt := Q } (start N vs) H) : FnG P w K mg base (L2.CX P w) (k + 1) f fd ps sp := by
  obtain ⟨oc, od, kV, doc, pm, an, cdv, ct, osl, rfl, lk, hcd⟩ := F.ex
  exact fnG_of lk hcd S len fun A outer s H vs Q E hr hsp => hbody cdv A outer s H vs Q E hr hsp
end
/-- the law's call -/
theorem lawG {P : Program} {w : World} {K : PySem.W.Frag} {mg mb : Str → Option Value} {k : Nat} {fa a : Addr} {fd : FuncData} {x : Str} {sp : Sp} {s1 : Shared} {vs : List Value} {ns : List Int}
    (KX : K.In s1.heap) (hns : s1.heap.Ns mainGlobals mg) (hb : s1.heap.Ns builtinsNs mb) (hbb : ∀ x : Str, x ≠ "__name__" → mb x = bootBuiltins x) (hlim : s1.heap.NoLimit) (hgen : s1.gens = #[])
    (ha : s1.heap.get? a = some { cls := .type "list", data := .seq vs.toArray }) (hi : IntsAre vs ns) (hl : ns.length ≤ sizeLine) (hr : Room k callerA)
    (F : ∀ base : Heap, K.In base → base.Ns mainGlobals mg → FnG P w K mg base CX0 k fa fd [x] sp) (hbind : ∀ (s : Shared) (u : Value), BindsTo s fd ⟨[u], []⟩ [(x, u)])
    (hsp : ∀ H : Hp, Only H → SqL K H a (ns.map V.int) → sp [.ref a] H (fun v _ => v = .bl true) E0) :
    codeAny (model P w) callerA (.call (.ref fa) ⟨[.ref a], []⟩) (fun r s' => r = .ok (.ret (.bool true)) ∧ OldK s1.heap s'.heap ∧ s'.os = s1.os ∧ AllBare s'.gens) s1 := by
  have rv := vals_ints hi
  have core : ∀ H : Hp, Only H → SqL K H a (ns.map V.int) → HOk P w H s1.heap → (∀ b, H b ≠ none → b = a) → (H a ≠ none → K.lookup a = none) →
      codeAny (model P w) callerA (.call (.ref fa) ⟨[.ref a], []⟩) (fun r s' => r = .ok (.ret (.bool true)) ∧ OldK s1.heap s'.heap ∧ s'.os = s1.os ∧ AllBare s'.gens) s1 := by
    intro H hO hS hok onlyA notK
    have hid : ∀ {b : Addr} {o : Obj}, s1.heap.get? b = some o → H b = none → (hidT s1.heap H).get? b = some o := fun e n => hidT_get e n
    have free : ∀ {b : Addr}, (b = a → False) → H b = none := fun {b} h => by
      cases q : H b with
      | none => rfl
      | some u => exact (h (onlyA b (by rw [q]; simp))).elim
    have nsH : ∀ {b : Addr} {m : Str → Option Value}, s1.heap.Ns b m → (hidT s1.heap H).Ns b m := fun {b m} ⟨o, es, ep, e, d, r⟩ => by
      refine ⟨o, es, ep, hid e (free fun z => ?_), d, r⟩
      subst z
      rw [ha] at e
      have e' := Option.some.inj e
      rw [← e'] at d
      cases d
    have kinH : K.In (hidT s1.heap H) := fun b o e => by
      refine hid (KX b o e) ?_
      by_cases hba : b = a
      · subst hba
        cases q : H b with
        | none => rfl
        | some u =>
          have z := notK (by rw [q]; simp)
          rw [e] at z; cases z
      · exact free hba
    have modH : Mod K mg (hidT s1.heap H) := ⟨kinH, nsH hns, ⟨mb, nsH hb, hbb⟩, let ⟨mc, h1, h2⟩ := hlim; ⟨mc, nsH h1, h2⟩⟩
    have env0 : Env0 P w K mg (hidT s1.heap H) callerA [] s1 H := ⟨rfl, modH, fun b o e => of_hidT e, Nat.le_of_eq (hidT_size _ _), trivial, fun b hb => (by cases hb), hok, .of_eq hgen⟩
    refine codeAny_mono ((F _ kinH (nsH hns)).run callerA [] s1 H ⟨[.ref a], []⟩ [.ref a] [.ref a] _ _ ⟨hr, rfl⟩ env0 (hbind s1 (.ref a)) (.cons rfl .nil) (hsp H hO hS)) fun r s' h => ?_
    match r, h with
    | .error e, h => exact False.elim h
    | .ok .next, h => exact False.elim h
    | .ok .brk, h => exact False.elim h
    | .ok .cont, h => exact False.elim h
    | .ok (.ret u), h =>
      obtain ⟨v, H', os, bare, un, hok', r', q⟩ := h
      obtain rfl : v = .bl true := q
      obtain rfl : u = Value.bool true := r'
      refine ⟨rfl, OldK.of_keep fun b o e => ?_, os, bare⟩
      cases q : H b with
      | none => exact un.keep b o e q (by intro z; cases z) (by intro z; cases z)
      | some u =>
        obtain ⟨ob, xs, z⟩ : ∃ o xs, H b = some (.frz o (.lst xs)) := (hO b).resolve_left (by rw [q]; simp)
        have e1 := (hok b _ z).1
        have e2 := (hok' b _ (un.frzs b ob _ z)).1
        rw [e] at e1
        cases e1
        exact e2
  cases hk : K.lookup a with
  | some o =>
    have e := KX a o hk
    rw [ha] at e
    cases e
    exact core (fun _ => none) (fun _ => .inl rfl) (.inr ⟨_, vs.toArray, _, hk, rfl, rfl, rfl, by rw [List.size_toArray, hi.length]; exact hl, by simpa using rv⟩) (fun b u z => by cases (show (none : Option HO) = some u from z)) (fun b z => absurd rfl z) fun z => absurd rfl z
  | none =>
    have at_ : ∀ {b : Addr}, b ≠ a → (if b = a then some (HO.frz { cls := .type "list", data := .seq vs.toArray } (.lst (ns.map V.int))) else none) = none := fun h => if_neg h
    refine core (fun b => if b = a then some (.frz { cls := .type "list", data := .seq vs.toArray } (.lst (ns.map V.int))) else none) (fun b => ?_) (.inl (.inr ⟨{ cls := .type "list", data := .seq vs.toArray }, if_pos rfl⟩)) (fun b u z => ?_) (fun b z => ?_) fun _ => hk
    · by_cases hba : b = a
      · exact .inr ⟨_, _, if_pos hba⟩
      · exact .inl (at_ hba)
    · by_cases hba : b = a
      · subst hba
        have z' := (if_pos rfl).symm.trans z
        cases z'
        exact ⟨ha, by rw [List.length_map]; exact hl, vs, _, rv, ha⟩
      · have z' := (at_ hba).symm.trans z
        cases z'
    · by_cases hba : b = a
      · exact hba
      · exact absurd (at_ hba) z
theorem walkG {l : PySem.W.OpenLaw} {n k : Nat} {q : Program} {loose : List Str} {XP : (Str → Option Value) → Heap → Prop} {YP : World → Heap → Prop} {d : DefRec} {K : Params → PySem.W.Frag} {sp : World → Sp} {x : Str}
    (hn : l.most = some n) (hn2 : n ≤ sizeLine) (hdf : d.params.defaults = []) (hr : Room k callerA) (hY : ∀ (w : World) (h : Heap), YP w h → (K w.params).In h)
    (F : ∀ (w : World) (mg : Str → Option Value) (fa : Addr) (h : Heap), (K w.params).In h → h.Ns mainGlobals mg → mg d.name = some (.ref fa) →
      ∃ fd : FuncData, (∀ (s : Shared) (u : Value), BindsTo s fd ⟨[u], []⟩ [(x, u)]) ∧ ∀ base : Heap, (K w.params).In base → base.Ns mainGlobals mg → FnG l.prog w (K w.params) mg base CX0 k fa fd [x] (sp w))
    (hsp : ∀ (w : World) (H : Hp) (a : Addr) (ns : List Int), ns.length ≤ n → Only H → SqL (K w.params) H a (ns.map V.int) → sp w [.ref a] H (fun v _ => v = .bl true) E0) :
    PySem.W.WalkO q loose XP YP l.row.toRowW d [] (fun f vs => PySem.call f vs) := by
  refine Att.attach_call hn hdf fun w s0 s1 mg mb fa o pm cd doc a vs ns G Y ho hd hcd hmg hobj hints hlen hgen => ?_
  have KX := hY w _ Y
  obtain ⟨fd, hb, hF⟩ := F w mg fa _ KX G.T.g hmg
  exact lawG KX G.T.g G.T.b G.T.builtins G.T.nolimit hgen hobj hints (Nat.le_trans hlen hn2) hr hF hb (fun H hO hS => hsp w H a ns hlen hO hS)
end Hw

set_option Elab.async false
set_option linter.all false
set_option maxRecDepth 100000
set_option maxHeartbeats 4000000
namespace Hw
open PySem L2 PyProof.Rows
/-! repr of data -/
mutual
theorem Dp_noDict {K : PySem.W.Frag} {H : Hp} : ∀ (d : PyData) (v : V), Dp K H v d → d.hasDict = false
  | .none, _, _ => by simp only [PyData.hasDict]
  | .bool _, _, _ => by simp only [PyData.hasDict]
  | .int _, _, _ => by simp only [PyData.hasDict]
  | .str _, _, _ => by simp only [PyData.hasDict]
  | .list ds, _, h => by
    cases h with
    | lst _ ha => simp only [PyData.hasDict]; exact DpAll_noDict ds _ ha
  | .tuple ds, _, h => by
    cases h with
    | tup _ ha => simp only [PyData.hasDict]; exact DpAll_noDict ds _ ha
  | .dict _, _, h => nomatch h
theorem DpAll_noDict {K : PySem.W.Frag} {H : Hp} : ∀ (ds : List PyData) (vs : List V), DpAll K H vs ds → PyData.hasDictAll ds = false
  | [], _, _ => by simp only [PyData.hasDictAll]
  | d :: ds, _, h => by
    cases h with
    | cons h1 h2 =>
      simp only [PyData.hasDictAll]
      rw [Dp_noDict d _ h1, DpAll_noDict ds _ h2]; rfl
end
/-- what is flat, as data -/
def flatPD : V → Option PyData
  | .non => some .none
  | .bl b => some (.bool b)
  | .int i => some (.int i)
  | .str x => some (.str x)
  | _ => none
def keyPD : Key → PyData
  | .inl i => .int i
  | .inr x => .str x
/-- a dict with flat values, as data -/
def DpK (H : Hp) (v : V) (d : PyData) : Prop := ∃ (a : Addr) (kvs : List (Key × V)) (ds : List (PyData × PyData)), v = .ref a ∧ H a = some (.dK kvs) ∧ d = .dict ds ∧
  Paired (fun p q => q.1 = keyPD p.1 ∧ flatPD p.2 = some q.2) kvs ds
def rRepr (K : PySem.W.Frag) : List V → Hp → VK → Prop := fun xs H Q => ∃ (x : V) (d : PyData), xs = [x] ∧ (Dp K H x d ∨ DpK H x d) ∧ d.showable = true ∧ d.depth ≤ 60 ∧ d.shown.length ≤ sizeLine ∧ Q (.str d.shown) H
theorem flat_reads {h : Heap} {v : V} {d : PyData} {u : Value} (e : flatPD v = some d) (r : RelV v u) : Reads h u d [] := by
  cases v with
  | non => cases e; cases r; exact .none
  | bl b => cases e; cases r; exact .bool b
  | int i => cases e; obtain ⟨t, rfl⟩ := r; exact .int i t
  | str x => cases e; obtain ⟨t, rfl⟩ := r; exact .str x t
  | byt b => cases e
  | flt b => cases e
  | ref a => cases e
  | ty n => cases e
theorem key_reads {P : Program} {w : World} {h : Heap} {k : Key} {u : Value} (e : (mixKind P w).is k u = true) : Reads h u (keyPD k) [] := by
  rcases keyIs_shape e with ⟨i, t, rfl, rfl⟩ | ⟨x, t, rfl, rfl⟩
  · exact .int i t
  · exact .str x t
theorem dict_reads {P : Program} {w : World} {h : Heap} : ∀ {kvs : List (Key × V)} {ds : List (PyData × PyData)} {vs : List (Key × Value)} {es : List DictEntry}, Paired (fun p q => q.1 = keyPD p.1 ∧ flatPD p.2 = some q.2) kvs ds → KV kvs vs → PySem.Pairs (mixKind P w) es vs →
    ReadsAll h (es.map (·.key)) (ds.map (·.1)) [] ∧ ReadsAll h (es.map (·.val)) (ds.map (·.2)) []
  | [], _, _, _, .nil, kv, pr => by cases kv; cases pr; exact ⟨.nil, .nil⟩
  | p :: kvs, q :: ds, _, _, .cons a t, kv, pr => by
    cases kv with
    | cons k1 k2 =>
      cases pr with
      | cons p1 p2 p3 =>
        obtain ⟨r1, r2⟩ := dict_reads t k2 p3
        obtain ⟨e1, e2⟩ := a
        refine ⟨?_, ?_⟩
        · have z : ReadsAll h _ _ ([] ++ []) := .cons (key_reads (h := h) p1) r1
          rw [← k1.1, ← e1] at z
          exact z
        · have y := flat_reads (h := h) e2 k1.2
          rw [← p2] at y
          exact (ReadsAll.cons y r2 : ReadsAll h _ _ ([] ++ []))
section
variable {X : Cx}
theorem call_repr (hg : X.A.guards = some []) (hu : X.A.units + 100 < cLine) : CallR X (.builtin "repr") (rRepr X.K) := by
  intro pins s σ H xs us Q I r h
  obtain ⟨x, d, rfl, hd, hs, hdp, hz, q⟩ := h
  obtain ⟨u, w', rfl, ru, rw'⟩ : ∃ u w', us = [u] ∧ RelV x u ∧ w' = us := by
    cases r with
    | cons a t => cases t; exact ⟨_, _, rfl, a, rfl⟩
  have fin : ∀ h' (tk : Tok) (tk' : Nat), (∀ b o, s.heap.get? b = some o → h'.get? b = some o) → EP X pins σ Q (.str d.shown tk) { s with heap := h', toks := tk' } := fun h' tk tk' k => ⟨.str d.shown, H, I.kept (t' := tk') k, ⟨tk, rfl⟩, q⟩
  have big : ∀ {a : Addr} {as : List Addr}, Reads s.heap (.ref a) d as → (d.hasDict = true → sysModules ∉ as) → wpAny (model X.prog X.w) X.A (call (.builtin "repr") [.ref a]) (EP X pins σ Q) X.xe s := fun {a as} r1 hm =>
    repr_of_reads' (h₀ := s.heap) r1 hs hm hg (by omega) (fun _ _ e => e) (fun h' u tk k => fin h' u tk k) hz
  rcases hd with hd | ⟨a, kvs, ds, rfl, ha, rfl, hp⟩
  · have nd := Dp_noDict d x hd
    obtain ⟨as, r1⟩ := Dp.reads I d x u hd ru
    cases hd with
    | non => cases ru; exact P.repr_of_none (fin s.heap _ _ fun _ _ e => e)
    | bl b =>
      cases ru
      refine P.repr_of_bool ?_
      have z := fin s.heap s.toks (s.toks + 1) fun _ _ e => e
      simpa only [PyData.shown] using z
    | int i =>
      obtain ⟨t, rfl⟩ := ru
      refine P.repr_of_int (by simpa only [PyData.showable, decide_eq_true_eq] using hs) ?_
      have z := fin s.heap s.toks (s.toks + 1) fun _ _ e => e
      simpa only [PyData.shown] using z
    | str y =>
      obtain ⟨t, rfl⟩ := ru
      refine P.repr_of_str ?_ (by simpa only [PyData.shown] using hz)
      have z := fin s.heap s.toks (s.toks + 1) fun _ _ e => e
      simpa only [PyData.shown] using z
    | lst h1 h2 => cases ru; exact big r1 (by rw [nd]; exact fun z => nomatch z)
    | tup h1 h2 => cases ru; exact big r1 (by rw [nd]; exact fun z => nomatch z)
  · cases ru
    obtain ⟨hl, hsys, vs, kv, o, es, ep, ho, hex, hdat, _, hpr, _⟩ := dk_of I.hok ha
    obtain ⟨r1, r2⟩ := dict_reads (h := s.heap) hp kv hpr
    refine big (.dict ho hex.1 hdat r1 r2) fun _ hm => ?_
    have e : sysModules = a := by simpa using hm
    rw [← e] at hsys
    simp at hsys
end
end Hw

set_option Elab.async false
set_option linter.all false
set_option maxRecDepth 100000
set_option maxHeartbeats 4000000
namespace Hw
open PySem L2 PyProof.Rows
/-! an exception held as a value: the object at a, its own dict at d -/
def XAt (H : Hp) (a C d : Addr) (v : V) : Prop := H a = some (exo a C (some d)) ∧ H d = some (exd d [("value", v)])
theorem XAt.same {H H' : Hp} {a C d : Addr} {v : V} (x : XAt H a C d v) (s : Same H H') : XAt H' a C d v := ⟨s _ _ x.1, s _ _ x.2⟩
theorem XAt.sameX {H H' : Hp} {a C d p : Addr} {v : V} (x : XAt H a C d v) (s : SameX p H H') (ha : a ≠ p) (hd : d ≠ p) : XAt H' a C d v := ⟨s _ _ ha x.1, s _ _ hd x.2⟩
/-- what the written part says of such a class -/
structure XCls (K : PySem.W.Frag) (fI C : Addr) : Prop where
  o : OexC K C
  x : XfC K C
  noV : PySem.W.findIn K (.ref C) "value" = some none
  ini : PySem.W.findIn K (.ref C) "__init__" = some (some (.ref fI))
  tI : PySem.W.typeIn K (.ref fI) = some (.type "function")
  cl : (PySem.W.clsIn K C).isSome = true
  ha : PySem.W.findIn K (.ref C) "__class__" = some (some (.builtin "object.__class__"))
  hn : PySem.W.specialIn K (.builtin "object.__class__") "__get__" = some (some (.builtin "getset_descriptor.__get__"))
  ht : PySem.W.takesIn K (.builtin "object.__class__") = some true
  hm : PySem.W.mroIn K C (.type "object") = some true
def oexB (K : PySem.W.Frag) (C : Addr) : Bool := match K.lookup C with
  | some ⟨.type "type", _, .cls cd, sl⟩ => (match cd.mro, sl.toList with
    | .ref C' :: bm, [_, _, _, _, some (.builtin n), _] => C' == C && (n == "ValueError.__new__" && (!cd.hasDel && (cd.hasDict && PySem.HandSPX.refsVE bm)))
    | _, _ => false)
  | _ => false
theorem oexB_ok {K : PySem.W.Frag} {C : Addr} (q : oexB K C = true) :
    ∃ nm q N bs bm sn sub ab col dd k0 k1 k2 k3 k5, K.lookup C = some (excClassObj nm q C N bs bm true sn sub ab col dd k0 k1 k2 k3 k5 "ValueError.__new__") ∧ PySem.HandSPX.refsVE bm = true := by
  unfold oexB at q
  split at q
  · rename_i dd cd sl ho
    split at q
    · rename_i C' bm k0 k1 k2 k3 n k5 hm hs
      simp only [Bool.and_eq_true, beq_iff_eq, Bool.not_eq_true'] at q
      obtain ⟨rfl, rfl, hdel, hdi, hve⟩ := q
      obtain ⟨nm, bs, mro, ns, qn, hd, sn, sub, ab, col, del⟩ := cd
      dsimp only at hm hdel hdi
      subst hm hdel hdi
      have hsl : sl = #[k0, k1, k2, k3, some (.builtin "ValueError.__new__"), k5] := by
        obtain ⟨l⟩ := sl
        simp only at hs
        rw [hs]
      subst hsl
      exact ⟨nm, qn, ns, bs, bm, sn, sub, ab, col, dd, k0, k1, k2, k3, k5, ho, hve⟩
    · cases q
  · cases q
def xclsB (K : PySem.W.Frag) (fI C : Addr) : Bool :=
  oexB K C && (decide (PySem.W.findIn K (.ref C) "__setattr__" = some (some (.builtin "object.__setattr__"))) && (decide (PySem.W.subIn K (.ref C) (.type "BaseException") = some true) && (decide (PySem.W.typeIn K (.ref C) = some (.type "type")) && (PySem.W.keepIn K (.ref C) &&
  (xfB K C && (decide (PySem.W.findIn K (.ref C) "value" = some none) && (decide (PySem.W.findIn K (.ref C) "__init__" = some (some (.ref fI))) && (decide (PySem.W.typeIn K (.ref fI) = some (.type "function")) && ((PySem.W.clsIn K C).isSome &&
  (decide (PySem.W.findIn K (.ref C) "__class__" = some (some (.builtin "object.__class__"))) && (decide (PySem.W.specialIn K (.builtin "object.__class__") "__get__" = some (some (.builtin "getset_descriptor.__get__"))) &&
  (decide (PySem.W.takesIn K (.builtin "object.__class__") = some true) && decide (PySem.W.mroIn K C (.type "object") = some true)))))))))))))
theorem xclsB_ok {K : PySem.W.Frag} {fI C : Addr} (h : xclsB K fI C = true) : XCls K fI C := by
  unfold xclsB at h
  simp only [Bool.and_eq_true, decide_eq_true_eq] at h
  obtain ⟨a1, a2, a3, a4, a5, a6, a7, a8, a9, b1, b2, b3, b4, b5⟩ := h
  exact ⟨⟨oexB_ok a1, a2, a3, a4, a5⟩, xfB_ok a6, a7, a8, a9, b1, b2, b3, b4, b5⟩
/-- the promise of __init__(self, value) -/
def spIniX (K : PySem.W.Frag) : Sp := fun vs H Q _ => ∃ (a C fI : Addr) (v : V), vs = [.ref a, v] ∧ XCls K fI C ∧ H a = some (exo a C none) ∧
  ∀ dx, H dx = none → dx ≠ a → Q .non (upd (upd H dx (exd dx [("value", v)])) a (exo a C (some dx)))
/-- C(e): a new exception -/
def tMkX (C : Addr) (ta : TA) : TE := fun σ H Q => ta σ H fun vs H1 => ∃ v, vs = [v] ∧ ∀ a d, H1 a = none → H1 d = none → d ≠ a → Q (.ref a) (upd (upd H1 d (exd d [("value", v)])) a (exo a C (some d)))
/-- x.value of a held exception -/
def tXv (K : PySem.W.Frag) (n : Str) (te : TE) : TE := fun σ H Q => te σ H fun x H1 => ∃ (a C d fI : Addr) (v : V), x = .ref a ∧ n = "value" ∧ XCls K fI C ∧ XAt H1 a C d v ∧ Q v H1
/-- isinstance(x, c) of a held exception -/
def rIsX (K : PySem.W.Frag) : List V → Hp → VK → Prop := fun xs H Q => ∃ (a C d fI : Addr) (v c : V) (u : Value) (b : Bool), xs = [.ref a, c] ∧ ClsV c u ∧ XCls K fI C ∧ XAt H a C d v ∧ PySem.W.kitOne K (.ref C) u = some b ∧ Q (.bl b) H
section
variable {X : Cx}
theorem pe_mkX {x : Str} {C fI : Addr} {k : Nat} {fd : FuncData} {e : Expr} {es : List Expr} {ta : TA} {p pos : Pos} (T : XCls X.K fI C) (F1 : FnOk X.prog X.w X.K X.mg X.base CX0 k fI fd ["self", "value"] (spIniX X.K)) (hr : Room (k + 1) X.A) (hb : Binds X.K fd ["self", "value"] [])
    (hg : Gl X x) (hm : X.mg x = some (.ref C)) (ha : PA X (e :: es) ta) (hdb : (x == ("__debug__" : Str)) = false := by decide) (hs : starEach (e :: es) X.env = (false, eval e X.env) :: starEach es X.env := by rfl) (hpl : (backTo pos (starEach es X.env)).any (·.1) = false := by rfl) :
    PE X (.Call (.Name x p) (e :: es) [] pos) (tMkX C ta) := by
  refine ⟨fun pins s σ H Q I h => ?_⟩
  obtain ⟨nm, q, N, bs, bm, sn, sub, ab, col, dd, k0, k1, k2, k3, k5, hC, hbm⟩ := T.o.cls
  refine wpAny_Call_Name_kw (ld_glob I hg hm ?_ hdb)
  refine PySem.W.callWith_K (h₀ := X.base) I.ok.mod.kin T.o.kC (thn (ha.run pos pins s σ H _ I h) fun us s1 ⟨vs, H1, I1, r1, v, ev, q1⟩ => ⟨I1.kIn, ?_⟩) hs hpl
  subst ev
  show wpAny _ _ (call (.ref C) us) _ _ _
  obtain ⟨hp, g, dr, tk, os⟩ := s1
  have hsz : hp.objs.size ≤ hp.objs.size + 1 := Nat.le_succ _
  have hn : H1 (hp.objs.size + 1) = none := I1.hok.fresh hsz
  have keeps : ∀ b o, hp.get? b = some o → ((hp.push (PySem.W.kdv_tup us)).push (PySem.HandSPX.excO C hp.objs.size)).get? b = some o := fun b o e => Heap.get?_push_of_some _ (Heap.get?_push_of_some _ e)
  have made : ((hp.push (PySem.W.kdv_tup us)).push (PySem.HandSPX.excO C hp.objs.size)).get? (hp.objs.size + 1) = some (PySem.HandSPX.excO C hp.objs.size) := by heap_get
  have I2 : Inv X pins σ (upd H1 (hp.objs.size + 1) (exo (hp.objs.size + 1) C none)) ⟨(hp.push (PySem.W.kdv_tup us)).push (PySem.HandSPX.excO C hp.objs.size), g, dr, tk, os⟩ :=
    I1.laid (t' := tk) keeps hsz (exo_ok made)
  have r2 : Vals (V.ref (hp.objs.size + 1) :: [v]) (Value.ref (hp.objs.size + 1) :: us) := .cons rfl r1
  have hl : (Value.ref (hp.objs.size + 1) :: us).length = (["self", "value"] : List Str).length := by
    rw [← r2.length]; rfl
  have hus : us.length ≤ sizeLine := by
    rw [← Paired.length r1, sizeLine_eq]; show 1 ≤ 16777216; decide
  have hsp : spIniX X.K (V.ref (hp.objs.size + 1) :: [v]) (upd H1 (hp.objs.size + 1) (exo (hp.objs.size + 1) C none)) (fun v' H2 => v' = .non ∧ ∃ d, H1 d = none ∧ d ≠ hp.objs.size + 1 ∧ H2 = upd (upd H1 d (exd d [("value", v)])) (hp.objs.size + 1) (exo (hp.objs.size + 1) C (some d))) E0 := by
    refine ⟨_, C, fI, v, rfl, T, upd_same, fun dx n1 n2 => ⟨rfl, dx, ?_, n2, ?_⟩⟩
    · rw [upd_ne n2] at n1; exact n1
    · funext b
      by_cases hb : b = hp.objs.size + 1
      · rw [hb, upd_same, upd_same]
      · rw [upd_ne hb, upd_ne hb]
        by_cases hd : b = dx
        · rw [hd, upd_same, upd_same]
        · rw [upd_ne hd, upd_ne hd, upd_ne hb]
  refine wpAny_call (PySem.HandSPX.call_own F.excBase_ValueError (fun Y => PySem.HandSPX.refsVE_contains Y bm hbm) (I1.kIn _ _ hC) (PySem.W.looks_findIn I1.kIn T.ini) (fun self => PySem.W.bind_fn I1.kIn self T.tI) hus
    (codeAny_mono (F1.run _ X.stack _ _ ⟨Value.ref (hp.objs.size + 1) :: us, []⟩ (Value.ref (hp.objs.size + 1) :: us) _ _ E0 (hr.make C us []) (I2.env0.make C us []) (by have z := hb _ (Value.ref (hp.objs.size + 1) :: us) I2.kIn (by simpa using hl); simpa using z) r2 hsp) fun r s' hq' => ?_))
  cases r with
  | error er => exact hq'.elim
  | ok fl =>
    cases fl with
    | ret u =>
      obtain ⟨v', H2, os2, bare2, un2, hok2, rv, ev, d, nd, nda, rfl⟩ := hq'
      subst ev
      exact ⟨rv, .ref _, _, I2.call' (ch := []) os2 un2 hok2 bare2 (fun b z => absurd z (by simp)), rfl, q1 _ d hn nd nda⟩
    | next => exact False.elim hq'
    | brk => exact False.elim hq'
    | cont => exact False.elim hq'
theorem xinst {pins : List (Addr × Obj)} {σ : L2.St} {H : Hp} {s : Shared} {a C d : Addr} {v : V} (I : Inv X pins σ H s) (x : XAt H a C d v) :
    ∃ ox od mA, PySem.W.InstAt s.heap a ox C (some od) ∧ s.heap.Ns1 d mA ∧ (∀ f, RelO (List.lookup f [(("value" : Str), v)]) (mA f)) ∧ s.heap.get? d = some od := by
  obtain ⟨t1, e1⟩ := exo_at I.hok x.1
  obtain ⟨mA, hns, rel⟩ := exd_at I.hok x.2
  obtain ⟨od, es, ep, ho, rest⟩ := id hns
  exact ⟨_, od, mA, ⟨e1, rfl, rfl, ho⟩, hns, rel, ho⟩
theorem pe_xv {e : Expr} {te : TE} {pos : Pos} {n : Str} (he : PE X e te) (hb : attributeBase e n X.env (eval e X.env) = eval e X.env := by rfl) : PE X (.Attribute e n pos) (tXv X.K n te) := by
  refine ⟨fun pins s σ H Q I h => ?_⟩
  refine attr_of hb (thn (he.run pins s σ H _ I h) fun u s1 ⟨x, H1, I1, rx, a, C, d, fI, v, ex, en, T, xa, q⟩ => ?_)
  subst ex en
  obtain rfl : u = Value.ref a := rx
  obtain ⟨mA, hns, rel⟩ := exd_at I1.hok xa.2
  obtain ⟨t1, e1⟩ := exo_at I1.hok xa.1
  obtain ⟨od, ho, hl⟩ := lookIn_ns hns
  obtain ⟨u, hu, ru⟩ := RelO.some_of (v := v) (o := mA ("value" : Str)) (by have z := rel ("value" : Str); rwa [lookup_put, if_pos rfl] at z)
  have J : PySem.W.InstAt s1.heap a _ C (some od) := ⟨e1, rfl, rfl, ho⟩
  exact HandSPX.exc_get I1.kIn J T.x.ga T.x.gg T.x.exC (PySem.W.findObj_own T.x.hdC T.noV rfl (by rw [hl, hu])) (handed_of ru) ⟨v, H1, I1.tok _, ru, q⟩
theorem call_isX : CallR X (.builtin "isinstance") (rIsX X.K) := by
  intro pins s σ H xs us Q I r h
  obtain ⟨a, C, d, fI, v, c, u, b, rfl, hc, T, xa, e, q⟩ := h
  obtain ⟨u1, u2, rfl, r1, r2⟩ := vals2 r
  cases (show u1 = Value.ref a from r1)
  have e2 := hc.eq r2
  subst e2
  obtain ⟨ox, od, mA, J, _⟩ := xinst I xa
  exact PySem.W.kia_one (PySem.W.kitx_exc T.cl T.x.ga T.x.gg T.x.exC T.ha T.hn T.ht T.hm) I.kIn J e (fun z => nomatch z) fun tk => ⟨.bl b, H, I.tok tk, rfl, q⟩
end
end Hw

set_option Elab.async false
set_option linter.all false
set_option maxRecDepth 100000
set_option maxHeartbeats 4000000
namespace Hw
open PySem L2 PyProof.Rows
/-! written data, laid beside a place a -/
mutual
inductive Dx (a : Addr) (H : Hp) : V → PyData → Prop
  | flat {v : V} {d : PyData} : flatPD v = some d → Dx a H v d
  | lst {p : Addr} {xs : List V} {ds : List PyData} : H p = some (.lst xs) → p ≠ a → DxAll a H xs ds → Dx a H (.ref p) (.list ds)
  | tup {p : Addr} {xs : List V} {ds : List PyData} : H p = some (.tup xs) → p ≠ a → DxAll a H xs ds → Dx a H (.ref p) (.tuple ds)
  | dct {p : Addr} {kvs : List (Key × V)} {ds : List (PyData × PyData)} : H p = some (.dK kvs) → p ≠ a → (∀ q ∈ kvs, valV kvs q.1 = some q.2 ∧ flatB q.2 = true) → Paired (fun q e => e.1 = keyPD q.1 ∧ flatPD q.2 = some e.2) kvs ds → Dx a H (.ref p) (.dict ds)
inductive DxAll (a : Addr) (H : Hp) : List V → List PyData → Prop
  | nil : DxAll a H [] []
  | cons {v : V} {vs : List V} {d : PyData} {ds : List PyData} : Dx a H v d → DxAll a H vs ds → DxAll a H (v :: vs) (d :: ds)
end
section
variable {a : Addr} {H H' : Hp}
mutual
theorem Dx.keep (s : SameX a H H') : ∀ (v : V) (d : PyData), Dx a H v d → Dx a H' v d
  | _, .list ds, h => by
    cases h with
    | flat e => exact .flat e
    | lst h1 h2 h3 => exact .lst (s _ _ h2 h1) h2 (DxAll.keep s _ ds h3)
  | _, .tuple ds, h => by
    cases h with
    | flat e => exact .flat e
    | tup h1 h2 h3 => exact .tup (s _ _ h2 h1) h2 (DxAll.keep s _ ds h3)
  | _, .dict ds, h => by
    cases h with
    | flat e => exact .flat e
    | dct h1 h2 h3 h4 => exact .dct (s _ _ h2 h1) h2 h3 h4
  | _, .none, h => by cases h with | flat e => exact .flat e
  | _, .bool _, h => by cases h with | flat e => exact .flat e
  | _, .int _, h => by cases h with | flat e => exact .flat e
  | _, .str _, h => by cases h with | flat e => exact .flat e
theorem DxAll.keep (s : SameX a H H') : ∀ (vs : List V) (ds : List PyData), DxAll a H vs ds → DxAll a H' vs ds
  | _, [], h => by cases h; exact .nil
  | _, d :: ds, h => by
    cases h with
    | cons h1 h2 => exact .cons (Dx.keep s _ d h1) (DxAll.keep s _ ds h2)
end
theorem DxAll.length : ∀ {vs : List V} {ds : List PyData}, DxAll a H vs ds → vs.length = ds.length
  | _, _, .nil => rfl
  | _, _, .cons _ t => congrArg (· + 1) (DxAll.length t)
theorem DxAll.append : ∀ {vs ws : List V} {ds es : List PyData}, DxAll a H vs ds → DxAll a H ws es → DxAll a H (vs ++ ws) (ds ++ es)
  | _, _, _, _, .nil, t => t
  | _, _, _, _, .cons x y, t => .cons x (DxAll.append y t)
theorem DxAll.at : ∀ {vs : List V} {ds : List PyData} {i : Nat} {v : V}, DxAll a H vs ds → vs[i]? = some v → ∃ d, d ∈ ds ∧ Dx a H v d
  | _, _, _, _, .nil, e => by simp at e
  | _, _, 0, _, .cons x _, e => by
    simp at e; subst e
    exact ⟨_, List.mem_cons_self, x⟩
  | _, _, i + 1, v, .cons _ t, e => by
    obtain ⟨d, h1, h2⟩ := DxAll.at (i := i) t (by simpa using e)
    exact ⟨d, List.mem_cons_of_mem _ h1, h2⟩
theorem Dp_flat {K : PySem.W.Frag} {v : V} {d : PyData} (e : flatPD v = some d) : Dp K H v d := by
  cases v with
  | non => cases e; exact .non
  | bl b => cases e; exact .bl b
  | int i => cases e; exact .int i
  | str x => cases e; exact .str x
  | byt b => cases e
  | flt b => cases e
  | ref a => cases e
  | ty n => cases e
mutual
theorem Dx.dp (K : PySem.W.Frag) : ∀ (v : V) (d : PyData), d.hasDict = false → Dx a H v d → Dp K H v d
  | _, .list ds, n, h => by
    cases h with
    | flat e => exact Dp_flat e
    | lst h1 h2 h3 => exact .lst (sql_of h1) (DxAll.dp K _ ds (by simpa only [PyData.hasDict] using n) h3)
  | _, .tuple ds, n, h => by
    cases h with
    | flat e => exact Dp_flat e
    | tup h1 h2 h3 => exact .tup (sqt_of h1) (DxAll.dp K _ ds (by simpa only [PyData.hasDict] using n) h3)
  | _, .dict ds, n, h => by simp [PyData.hasDict] at n
  | _, .none, _, h => by cases h with | flat e => exact Dp_flat e
  | _, .bool _, _, h => by cases h with | flat e => exact Dp_flat e
  | _, .int _, _, h => by cases h with | flat e => exact Dp_flat e
  | _, .str _, _, h => by cases h with | flat e => exact Dp_flat e
theorem DxAll.dp (K : PySem.W.Frag) : ∀ (vs : List V) (ds : List PyData), PyData.hasDictAll ds = false → DxAll a H vs ds → DpAll K H vs ds
  | _, [], _, h => by cases h; exact .nil
  | _, d :: ds, n, h => by
    simp only [PyData.hasDictAll, Bool.or_eq_false_iff] at n
    cases h with
    | cons h1 h2 => exact .cons (Dx.dp K _ d n.1 h1) (DxAll.dp K _ ds n.2 h2)
end
end
/-! displays that lay data -/
def MkD (te : TE) (d : PyData) : Prop := ∀ (a : Addr) (σ : L2.St) (H : Hp) (Q : VK), H a ≠ none → (∀ v H', Same H H' → Dx a H' v d → Q v H') → te σ H Q
def MkA (ta : TA) (ds : List PyData) : Prop := ∀ (a : Addr) (σ : L2.St) (H : Hp) (Q : List V → Hp → Prop), H a ≠ none → (∀ vs H', Same H H' → DxAll a H' vs ds → Q vs H') → ta σ H Q
theorem same_some {a : Addr} {H H' : Hp} (s : Same H H') (h : H a ≠ none) : H' a ≠ none := by
  cases e : H a with
  | none => exact absurd e h
  | some o => rw [s _ _ e]; exact fun z => nomatch z
theorem mkA_nil : MkA tNil [] := fun _ _ H _ _ q => q [] H (Same.refl H) .nil
theorem mkA_cons {te : TE} {ta : TA} {d : PyData} {ds : List PyData} (h1 : MkD te d) (h2 : MkA ta ds) : MkA (tCons te ta) (d :: ds) := fun a σ H Q ha q =>
  h1 a σ H _ ha fun v H1 s1 x1 => h2 a σ H1 _ (same_some s1 ha) fun vs H2 s2 x2 => q (v :: vs) H2 (s1.trans s2) (.cons (Dx.keep (.of s2) _ _ x1) x2)
theorem mk_c {v : V} {d : PyData} (h : flatPD v = some d) : MkD (tC v) d := fun a σ H Q _ q => q v H (Same.refl H) (.flat h)
theorem mk_neg {i : Int} : MkD (tUn (rU fun i => .int (-i)) (tC (.int i))) (.int (-i)) := fun a σ H Q _ q => ⟨i, rfl, q _ H (Same.refl H) (.flat rfl)⟩
theorem mk_tup {ta : TA} {ds : List PyData} (h : MkA ta ds) (hl : ds.length ≤ 1000) : MkD (tTup ta) (.tuple ds) := fun a σ H Q ha q => h a σ H _ ha fun vs H1 s1 x1 =>
  ⟨Nat.le_of_lt (small1000 (by rw [x1.length]; exact hl)), fun p hp => q _ _ (s1.trans (same_upd hp)) (.tup upd_same (fun e => same_some s1 ha (e ▸ hp)) (DxAll.keep (.of (same_upd hp)) _ _ x1))⟩
theorem mk_lst {ta : TA} {ds : List PyData} (h : MkA ta ds) (hl : ds.length ≤ 1000) : MkD (tLst ta) (.list ds) := fun a σ H Q ha q => h a σ H _ ha fun vs H1 s1 x1 =>
  ⟨Nat.le_of_lt (small1000 (by rw [x1.length]; exact hl)), fun p hp => q _ _ (s1.trans (same_upd hp)) (.lst upd_same (fun e => same_some s1 ha (e ▸ hp)) (DxAll.keep (.of (same_upd hp)) _ _ x1))⟩
theorem mk_dnew : MkD tDNewK (.dict []) := fun a σ H Q ha q p hp => q _ _ (same_upd hp) (.dct upd_same (fun e => ha (e ▸ hp)) (fun _ z => nomatch z) .nil)
theorem mk_dict1 {k : Str} {i : Int} : MkD (tDisp [(tC (.str k), tC (.int i))]) (.dict [(.str k, .int i)]) := fun a σ H Q ha q p hp => by
  refine ⟨upd_same, [(Sum.inr k, .int i)], rfl, by show 1 ≤ 15; decide, ?_⟩
  refine q _ _ (fun b o e => ?_) (.dct upd_same (fun e => ha (e ▸ hp)) (kvs := [(Sum.inr k, .int i)]) ?_ (.cons ⟨rfl, rfl⟩ .nil))
  · have hb := ne_of_none e hp
    rw [upd_ne hb, upd_ne hb]; exact e
  · intro z hz
    rcases List.mem_cons.mp hz with rfl | hz
    · exact ⟨valV_pos (p := ((Sum.inr k : Key), V.int i)) (r := []) rfl, rfl⟩
    · cases hz
/-- what is shown of such data, and is equal to itself -/
def fineD (d : PyData) : Bool := d.showable && (decide (d.depth ≤ 60) && (decide (d.shown.length ≤ 1000) && (match d with | .dict _ => true | d => !d.hasDict && (SeqAt.shaped d && PyData.eqv d d))))
section
variable {X : Cx}
def rNeO (K : PySem.W.Frag) : R2 := fun x y H Q => ∃ (a : Addr) (d : PyData), y = x ∧ Dx a H x d ∧ fineD d = true ∧ Q (.bl false) H
theorem op_neO (hu : X.A.units + 64 < cLine) : OpR X (compareOp .NotEq) (rNeO X.K) := by
  intro pins s σ H x y v u Q I rx ry h
  obtain ⟨a, d, rfl, hd, hf, q⟩ := h
  unfold fineD at hf
  simp only [Bool.and_eq_true] at hf
  obtain ⟨_, _, _, hf⟩ := hf
  by_cases hdict : ∃ ds, d = .dict ds
  · obtain ⟨ds, rfl⟩ := hdict
    cases hd with
    | flat e => cases y <;> cases e
    | dct h1 h2 h3 h4 => exact op_ne_dictA (by omega) pins s σ H _ _ v u Q I rx ry ⟨_, _, _, _, rfl, rfl, h1, h1, rfl, h3, q⟩
  · have hf' : (!d.hasDict && (SeqAt.shaped d && PyData.eqv d d)) = true := by
      revert hf
      cases d with
      | dict ds => exact absurd ⟨ds, rfl⟩ hdict
      | _ => exact fun z => z
    simp only [Bool.and_eq_true, Bool.not_eq_true'] at hf'
    have z := Dx.dp X.K _ d hf'.1 hd
    exact op_neD hu pins s σ H _ _ v u Q I rx ry ⟨d, d, z, z, hf'.2.1, hf'.2.1, by rw [hf'.2.2]; exact q⟩
def rReprO : List V → Hp → VK → Prop := fun xs H Q => ∃ (x : V) (a : Addr) (d : PyData), xs = [x] ∧ Dx a H x d ∧ fineD d = true ∧ Q (.str d.shown) H
theorem call_reprO (hg : X.A.guards = some []) (hu : X.A.units + 100 < cLine) : CallR X (.builtin "repr") rReprO := by
  intro pins s σ H xs us Q I r h
  obtain ⟨x, a, d, rfl, hd, hf, q⟩ := h
  unfold fineD at hf
  simp only [Bool.and_eq_true, decide_eq_true_eq] at hf
  obtain ⟨h1, h2, h3, hf⟩ := hf
  refine call_repr hg hu pins s σ H _ us Q I r ⟨x, d, rfl, ?_, h1, h2, Nat.le_of_lt (small1000 h3), q⟩
  by_cases hdict : ∃ ds, d = .dict ds
  · obtain ⟨ds, rfl⟩ := hdict
    cases hd with
    | flat e => cases x <;> cases e
    | dct k1 k2 k3 k4 => exact .inr ⟨_, _, ds, rfl, k1, rfl, k4⟩
  · have hf' : (!d.hasDict && (SeqAt.shaped d && PyData.eqv d d)) = true := by
      revert hf
      cases d with
      | dict ds => exact absurd ⟨ds, rfl⟩ hdict
      | _ => exact fun z => z
    simp only [Bool.and_eq_true, Bool.not_eq_true'] at hf'
    exact .inl (Dx.dp X.K _ d hf'.1 hd)
/-- count(True) of bools -/
def isT : Value → Bool
  | .bool b => b
  | _ => false
def rCntT (K : PySem.W.Frag) : V → List V → Hp → VK → Prop := fun x xs H Q => ∃ (p : Addr) (bs : List Bool), x = .ref p ∧ xs = [.bl true] ∧ SqL K H p (bs.map V.bl) ∧ Q (.int (bs.count true : Nat)) H
theorem cnt_isT : ∀ {bs : List Bool} {us : List Value}, Vals (bs.map V.bl) us → us.countP isT = bs.count true
  | [], _, r => by cases r; rfl
  | b :: bs, _, r => by
    cases r with
    | cons r1 r2 =>
      have ih := cnt_isT r2
      rename_i u us'
      obtain rfl : u = Value.bool b := r1
      rw [List.countP_cons, ih, List.count_cons]
      cases b <;> rfl
theorem mem_vals : ∀ {bs : List Bool} {us : List Value}, Vals (bs.map V.bl) us → ∀ y ∈ us, ∃ b, y = Value.bool b
  | [], _, r, y, hy => by cases r; cases hy
  | b :: bs, _, r, y, hy => by
    cases r with
    | cons r1 r2 =>
      rcases List.mem_cons.mp hy with rfl | hy
      · exact ⟨b, r1⟩
      · exact mem_vals r2 y hy
theorem mt_cntT : MtR X "list.count" (rCntT X.K) := by
  intro pins s σ H x xs v us Q I rx rxs h
  obtain ⟨p, bs, rfl, rfl, hs, q⟩ := h
  cases rx
  obtain ⟨u, rfl, ru⟩ := rxs.one
  obtain rfl : u = Value.bool true := ru
  obtain ⟨its, rv, ⟨⟨cls, dd, data, sl⟩, n, ho, hc, hdn, hd⟩, hlen⟩ := I.list hs
  simp only at hc hd
  subst hc hd
  refine call_meets PySem.F.slot_list_count ⟨_, ho, rfl⟩ PySem.F.entry_list_count (PySem.F.args_list_count_2 _ _)
    (SeqAt.list_countAt p its.toArray n dd sl (.bool true) isT) ⟨ho, fun y hy => ?_, ?_⟩
  · obtain ⟨b, rfl⟩ := mem_vals rv y (by simpa using hy)
    have z := eqAt_V (A := X.A.in1) (s := s) (y := .bl b) (x := .bl true) (u := .bool b) (v := .bool true) rfl rfl rfl rfl
    have e : eqV (.bl b) (.bl true) = isT (.bool b) := by cases b <;> rfl
    rw [e] at z
    exact z
  · refine ⟨.int (bs.count true : Nat), H, I.tok _, ⟨s.toks, ?_⟩, q⟩
    have ec : its.toArray.toList.countP isT = bs.count true := cnt_isT rv
    rw [ec]
end
end Hw

set_option Elab.async false
set_option linter.all false
set_option maxRecDepth 100000
set_option maxHeartbeats 4000000
namespace Hw
open PySem L2 PyProof.Rows
section
variable {t u : TS} {te ta tb : TE} {g : TG} {D : Ends} {σ : L2.St} {H : Hp} {Q : VK} {tl tr : TA} {r : R2} {QA : List V → Hp → Prop} {sp : Sp} {dvs : List V} {E : XK}
theorem r_seq (h : t { D with nx := u D } σ H) : tSeq t u D σ H := h
theorem r_asg (h : te σ H fun x H1 => g x σ H1 D.nx) : tAsg te g D σ H := h
theorem r_ret (h : te σ H D.rt) : tRet te D σ H := h
theorem r_cons (h : te σ H fun x H1 => tr σ H1 fun xs H2 => QA (x :: xs) H2) : tCons te tr σ H QA := h
theorem r_op (h : ta σ H fun x H1 => tb σ H1 fun y H2 => r x y H2 Q) : tOp r ta tb σ H Q := h
theorem r_call (h : tl σ H fun vs H1 => sp (vs ++ dvs) H1 Q E) : tCall sp dvs E tl σ H Q := h
theorem r_var {i : Nat} {v : V} (e : σ[i]? = some (some v)) (h : Q v H) : tVar i σ H Q := ⟨v, e, h⟩
end
theorem lst_use {ta : TA} {ds : List PyData} {a : Addr} {σ : L2.St} {H : Hp} {Q : VK} (ha : H a ≠ none) (q : ∀ p xs H', Same H H' → H' p = some (.lst xs) → p ≠ a → DxAll a H' xs ds → Q (.ref p) H') (m : MkA ta ds) (hl : ds.length ≤ 1000) : tLst ta σ H Q :=
  mk_lst m hl a σ H Q ha fun v H' s x => by
    cases x with
    | flat e => cases v <;> cases e
    | lst h1 n1 x1 => exact q _ _ H' s h1 n1 x1
section
variable {t u : TS} {te to : TE} {D : Ends} {σ : L2.St} {H : Hp} {i : Nat} {c : TT} {ta : TA} {K : PySem.W.Frag} {T : String} {r : V → List V → Hp → VK → Prop}
theorem rs_set (h : te σ H fun x H1 => u D (σ.set i (some x)) H1) : tSeq (tAsg te (gName i)) u D σ H := h
theorem rs_bm (h : to σ H fun x H1 => tyV K T x H1 ∧ ta σ H1 fun xs H2 => r x xs H2 fun _ H3 => u D σ H3) : tSeq (tDrop (tBM K T r to ta)) u D σ H := h
theorem rs_ifR (h : c σ H fun b H1 => if b = true then te σ H1 D.rt else u D σ H1) : tSeq (tIfS c (tRet te) tNext) u D σ H := h
theorem r1_ifR (h : c σ H fun b H1 => if b = true then te σ H1 D.rt else D.nx σ H1) : tIfS c (tRet te) tNext D σ H := h
end
/-! tests that come out false, new objects apart -/
def AnsF (t : TT) (σ : L2.St) (H : Hp) : Prop := ∀ Q : Bool → Hp → Prop, (∀ H', Same H H' → Q false H') → t σ H Q
section
variable {t u : TT} {σ : L2.St} {H : Hp} {te : TE} {us : TS} {D : Ends}
theorem ansF_or (h1 : AnsF t σ H) (h2 : ∀ H', Same H H' → AnsF u σ H') : AnsF (tOr t u) σ H := fun Q q =>
  h1 _ fun H1 s1 => by
    show if false = true then Q true H1 else u σ H1 Q
    rw [if_neg Bool.false_ne_true]
    exact h2 H1 s1 Q fun H2 s2 => q H2 (s1.trans s2)
theorem rs_skip (h1 : AnsF t σ H) (h : ∀ H', Same H H' → us D σ H') : tSeq (tIfS t (tRet te) tNext) us D σ H := h1 _ fun H1 s1 => by
  show if false = true then _ else _
  rw [if_neg Bool.false_ne_true]
  exact h H1 s1
theorem r1_skip (h1 : AnsF t σ H) (h : ∀ H', Same H H' → D.nx σ H') : tIfS t (tRet te) tNext D σ H := h1 _ fun H1 s1 => by
  show if false = true then _ else _
  rw [if_neg Bool.false_ne_true]
  exact h H1 s1
end
section
variable {u : TS} {D : Ends} {σ : L2.St} {H : Hp} {i j : Nat} {ta : TA} {v : V} {Q : L2.St → Hp → Prop}
theorem rs_par (h : ta σ H fun vs H1 => ∃ v w, vs = [v, w] ∧ u D ((σ.set i (some v)).set j (some w)) H1) : tSeq (tPar i j ta) u D σ H := h
theorem r_gname (h : Q (σ.set i (some v)) H) : gName i v σ H Q := h
end
theorem rs_enum {K : PySem.W.Frag} {u tb : TS} {g : TG} {D : Ends} {σ : L2.St} {H : Hp} {i : Nat} {p : Addr} {xs : List V} (e : σ[i]? = some (some (.ref p))) (hs : SqL K H p xs) (Pv : Nat → L2.St → Hp → Prop) (h0 : Pv 0 σ H)
    (hG : ∀ j σ H, j ≤ xs.length → Pv j σ H → SqL K H p xs)
    (turn : ∀ j x σ H T, j < xs.length → Pv j σ H → H T = none → xs[j]? = some x → g (.ref T) σ (upd H T (.tup [.int (j : Int), x])) fun σ2 H2 => tb { D with nx := Pv (j + 1), ct := Pv (j + 1), bk := u D } σ2 H2)
    (done : ∀ σ H, Pv xs.length σ H → u D σ H) : tSeq (tFor (iEnum K (tCons (tVar i) tNil)) g tb) u D σ H :=
  ⟨.ref p, e, p, xs, rfl, hs, for_it walk_enum Pv h0 hG (fun j x σ H H' hj hp ⟨T, xa, ya, ex, nT, eH, e1, e2⟩ => by
    subst ex eH
    obtain rfl : V.int (j : Int) = xa := Option.some.inj e1
    exact turn j ya σ H T hj hp nT e2) done⟩
theorem paired_at {α β : Type} {F : α → β → Prop} : ∀ {xs : List α} {ys : List β} {i : Nat} {y : β}, Paired F xs ys → ys[i]? = some y → ∃ x, xs[i]? = some x ∧ F x y
  | _, _, _, _, .nil, e => by simp at e
  | _, _, 0, _, .cons a _, e => by simp at e; subst e; exact ⟨_, rfl, a⟩
  | _, _, i + 1, y, .cons _ t, e => by
    obtain ⟨x, h1, h2⟩ := paired_at (i := i) t (by simpa using e)
    exact ⟨x, by simpa using h1, h2⟩
theorem r_yes {σ : L2.St} {H : Hp} {te : TE} {Q1 : VK} {B : Prop} (h : te σ H Q1) : tYes σ H fun b H3 => if b = true then te σ H3 Q1 else B := by
  show if true = true then te σ H Q1 else B
  rw [if_pos rfl]
  exact h
end Hw

set_option Elab.async false
set_option linter.all false
set_option maxRecDepth 100000
set_option maxHeartbeats 4000000
namespace Hw
open PySem L2 PyProof.Rows
/-! a built-in class called with keywords -/
theorem callWith_tyK {M : Model} {A : Around} {E : Value → Shared → Prop} {s : Shared} {pos : Pos} {T : String} {first : List Value} {args : List (Bool × Sem Value)} {keywords : List (Option Str × Sem Value)} {Q : Value → Shared → Prop}
    (hp : args.any (·.1) = false) (hk : keywords.any (·.1.isNone) = false) (h : wpAny M A (evalArgs (.type T) true args keywords) (fun a s1 => wpAny M A (call (.type T) (first ++ a.pos) a.kw) Q E s1) E s) :
    wpAny M A (callWith pos (.type T) first args keywords) Q E s := by
  unfold callWith
  refine wpAny_bind (wpAny_holding (wpAny_mono h (fun a s1 h1 => wpAny_bind (wpAny_standAt ?_)) fun _ _ z => z))
  simp only [hp, hk, Bool.or_false]
  refine wpAny_bind (wpAny_pure ?_)
  exact wpAny_bind (wpAny_mono h1 (fun r s2 hr => wpAny_bind (wpAny_holding (wpAny_point (wpAny_pure hr)))) fun _ _ z => z)
/-! enumerate(list, start=k) -/
def IteK (K : PySem.W.Frag) (a : Addr) (k0 : Int) : It :=
  ⟨fun i H => ∃ (xs : List V) (x : V), SqL K H a xs ∧ xs[i]? = some x, fun i H v H' => ∃ T x, v = .ref T ∧ H T = none ∧ H' = upd H T (.tup [.int (k0 + (i : Nat)), x]) ∧ ∀ xs, SqL K H a xs → xs[i]? = some x, fun i H => ∃ xs : List V, SqL K H a xs ∧ xs.length = i⟩
theorem turn_enumK {P : Program} {w : World} {K : PySem.W.Frag} {elts : List Expr} {kk : Nat} {tpos : Pos} (k0 : Int) (a e it : Addr) :
    Turn P w K (.Tuple elts kk tpos) (IteK K a k0) [e, it] e (fun i h => (∃ old, IsEnum h e it (k0 + (i : Nat)) old) ∧ h.IsListIter it a i ∧ e ≠ it) where
  mem := by simp
  obj := fun i h st b hb => by
    obtain ⟨⟨old, he⟩, ⟨o, ho, hc, hd⟩, _⟩ := st
    rcases (show b = e ∨ b = it by simpa using hb) with z | z
    · subst z; exact ⟨_, he, fun v q => nomatch q⟩
    · subst z; exact ⟨o, ho, fun v q => by rw [hd] at q; cases q⟩
  keep := fun i h h' st k => by
    obtain ⟨⟨old, he⟩, hi, hne⟩ := st
    exact ⟨⟨old, k e (by simp) _ he⟩, hi.at fun o q => k it (by simp) o q, hne⟩
  item := by
    intro X hP hw hK hc i pins s σ H E I hf st hg
    subst hP hw hK
    obtain ⟨⟨old, he⟩, hit, hne⟩ := st
    obtain ⟨xs, x, hq, hx⟩ := hg
    obtain ⟨its, rv, p, hz⟩ := I.list hq
    obtain ⟨u, hu, ru⟩ := rv.get hx
    have hel : e < s.heap.objs.size := Heap.lt_size he
    have hil : it < s.heap.objs.size := by
      obtain ⟨_, q, _⟩ := hit
      exact Heap.lt_size q
    have hae : a ≠ e := fun z => by
      obtain ⟨o1, q1, q2, _⟩ := p.isList
      subst z
      rw [show s.heap.get? a = _ from he] at q1
      obtain rfl := Option.some.inj q1
      injection q2 with q2
      exact absurd q2 (by decide)
    have hai : a ≠ it := fun z => by
      obtain ⟨o1, q1, q2, _⟩ := p.isList
      obtain ⟨o2, q3, q4, _⟩ := hit
      subst z
      rw [q3] at q1
      obtain rfl := Option.some.inj q1
      rw [q4] at q2
      injection q2 with q2
      exact absurd q2 (by decide)
    have hlt : i < its.toArray.size := by
      have := (List.getElem?_eq_some_iff.mp hu).1
      simpa using this
    refine wpAny_pyNext_enum_itemC (Draws.list (A := X.A.in1) (I.ok.hd hc) it a hai its.toArray) he ⟨hit, p.isList⟩ hlt hne (by simp [Ne.symm hae, hne]) fun x' h' tk hx' ho hst' hT hsz hk => ⟨_, rfl, wpAny_letOwnedTupleGo_enum (s := { s with heap := h', toks := tk + 1 }) ho fun h2 he' sb => ?_⟩
    obtain ⟨hit', hl'⟩ := hst'
    obtain rfl : u = x' := by
      rw [show its.toArray[i]? = its[i]? by simp] at hx'
      rw [hu] at hx'
      exact Option.some.inj hx'
    have hT2 : h2.get? s.heap.objs.size = some { cls := .type "tuple", data := .seq #[.int (k0 + (i : Nat)) tk, u] } := (sb.2 _ (Nat.ne_of_gt hel)).trans hT
    have new : ObjOk X.prog X.w (upd H s.heap.objs.size (.tup [.int (k0 + (i : Nat)), x])) h2 s.heap.objs.size (.tup [.int (k0 + (i : Nat)), x]) :=
      ⟨by show 2 ≤ sizeLine; decide, [.int (k0 + (i : Nat)) tk, u], .cons ⟨_, rfl⟩ (.cons ru .nil), ⟨_, hT2, rfl, _, rfl⟩⟩
    have I1 : Inv X pins σ (upd H s.heap.objs.size (.tup [.int (k0 + (i : Nat)), x])) { s with heap := h2, toks := tk + 1 } :=
      I.turnedNew (ch := [e, it]) (fun b ob hb q => (sb.2 b (fun z => hb (by simp [z]))).trans (hk b ob (fun z => hb (by simp [z])) (fun z => hb (by simp [z])) q)) hf (Nat.le_refl _) new
    refine ⟨.ref s.heap.objs.size, _, I1, rfl, ⟨_, x, rfl, I.hok.fresh (Nat.le_refl _), rfl, fun ys hy => by rw [I.list_inj hy hq]; exact hx⟩, ⟨⟨u, ?_⟩, hit'.at fun o q => (sb.2 it (Ne.symm hne)).trans q, hne⟩, fun b hb => ?_⟩
    · have e1 : k0 + ((i + 1 : Nat) : Int) = k0 + (i : Nat) + 1 := by omega
      rw [e1]; exact he'
    · have hb' : b < s.heap.objs.size := by
        rcases (show b = e ∨ b = it by simpa using hb) with z | z
        · rw [z]; exact hel
        · rw [z]; exact hil
      rw [upd_ne (Nat.ne_of_lt hb')]
      exact (hf b hb).1
  done := by
    intro X hP hw hK hc i pins s σ H E I hf st hg
    subst hP hw hK
    obtain ⟨⟨old, he⟩, hit, hne⟩ := st
    obtain ⟨xs, hq, hx⟩ := hg
    obtain ⟨its, rv, p, hz⟩ := I.list hq
    obtain ⟨f0, f1, f2, f3, f4, f5⟩ := hf it (by simp)
    have hl := rv.length
    have hai : a ≠ it := fun z => by
      obtain ⟨o1, q1, q2, _⟩ := p.isList
      obtain ⟨o2, q3, q4, _⟩ := hit
      subst z
      rw [q3] at q1
      obtain rfl := Option.some.inj q1
      rw [q4] at q2
      injection q2 with q2
      exact absurd q2 (by decide)
    have ei : its.toArray.size = i := by simp; omega
    refine wpAny_pyNext_enum_endD (Draws.list (A := X.A.in1) (I.ok.hd hc) it a hai its.toArray) he ⟨by rw [ei]; exact hit, p.isList⟩ fun h' eb => ⟨rfl, I.turned (t' := s.toks) (fun b o hb q => eb b o hb q) f0 f1 f3 f4 f5⟩
  self := fun A i s Q E st h => by
    obtain ⟨⟨_, he⟩, _⟩ := st
    exact wpAny_pyIter_enum he h
def iEnumK (K : PySem.W.Frag) (ta tk : TA) : TI := fun σ H R => ta σ H fun vs H1 => tk σ H1 fun zs H2 => ∃ a xs k, vs = [.ref a] ∧ zs = [.int k] ∧ -(2 ^ 62) ≤ k ∧ k < 2 ^ 62 ∧ SqL K H2 a xs ∧ R (IteK K a k) H2
theorem pi_enumK {X : Cx} {e ke : Expr} {ta tk : TA} {p pos tpos kp : Pos} {elts : List Expr} {kk : Nat} (hg : Gl X "enumerate") (hm : X.mg "enumerate" = none) (ha : PA X [e] ta) (hk : PK X [⟨some (Str.ofString "start"), ke, kp⟩] tk)
    (he : backTo pos (starEach [e] X.env) = (false, eval e X.env) :: backTo pos (starEach [] X.env) := by rfl) (hpl : (backTo pos (starEach [e] X.env)).any (·.1) = false := by rfl)
    (hall : (backToKw pos (keywordEach [⟨some (Str.ofString "start"), ke, kp⟩] X.env)).all (·.1.isSome) = true := by rfl) (hnone : (backToKw pos (keywordEach [⟨some (Str.ofString "start"), ke, kp⟩] X.env)).any (·.1.isNone) = false := by rfl)
    (hks : (backToKw pos (keywordEach [⟨some (Str.ofString "start"), ke, kp⟩] X.env)).filterMap (·.1) = [Str.ofString "start"] := by rfl) :
    PI X (.Tuple elts kk tpos) (.Call (.Name "enumerate" p) [e] [⟨some (Str.ofString "start"), ke, kp⟩] pos) (iEnumK X.K ta tk) := by
  refine ⟨fun pins s σ H R I h => ?_⟩
  refine wpAny_Call_Name_kw (ld_blt I hg hm boot_enumerate ?_ (by decide) (by decide))
  refine callWith_tyK hpl hnone ?_
  rw [he]
  refine evalArgs_kwB hall ?_
  rw [← he]
  refine thn (ha.run pos pins s σ H _ I h) fun us s1 ⟨vs, H1, I1, r1, q1⟩ => thn (hk.run pos pins s1 σ H1 _ I1 q1) fun ws s2 ⟨zs, H2, I2, r2, a, xs, k, ex, ez, k0, k1, hq, q⟩ => ?_
  subst ex ez
  rw [hks]
  obtain ⟨u, rfl, ru⟩ := r1.one
  obtain ⟨v, rfl, rv⟩ := r2.one
  obtain rfl : u = Value.ref a := ru
  obtain ⟨t, rfl⟩ := rv
  obtain ⟨its, rvs, p', hz⟩ := I2.list hq
  refine enum_begins_start (begins_list a its.toArray) p'.isList (by omega) (by omega) fun h' hen hit hsz hkp => ?_
  refine wpAny_pyIter_enum hen ?_
  have I3 : Inv X pins σ H2 { s2 with heap := h' } := I2.kept (t' := s2.toks) hkp
  have li : h'.IsListIter s2.heap.objs.size a 0 := ⟨_, hit, rfl, rfl⟩
  refine ⟨s2.heap.objs.size + 1, [s2.heap.objs.size + 1, s2.heap.objs.size], _, _, H2, rfl, I3, turn_enumK k a (s2.heap.objs.size + 1) s2.heap.objs.size, ⟨⟨.none, by rw [show k + ((0 : Nat) : Int) = k by omega]; exact hen⟩, li, Nat.succ_ne_self _⟩, fun b hb => ?_, q⟩
  have hle : s2.heap.objs.size ≤ b := by
    rcases (show b = s2.heap.objs.size + 1 ∨ b = s2.heap.objs.size by simpa using hb) with z | z
    · rw [z]; exact Nat.le_add_right _ _
    · rw [z]; exact Nat.le_refl _
  exact I2.fpOk hle (I2.hok.fresh hle)
theorem walk_enumK {K : PySem.W.Frag} {a : Addr} {xs : List V} {k : Int} : Walk (IteK K a k) xs.length (fun H => SqL K H a xs) (YPair (fun i => some (.int (k + (i : Nat)))) (fun i => xs[i]?)) := by
  refine ⟨fun i _ hi q => ⟨xs, xs[i], q, by simp [hi]⟩, fun _ q => ⟨xs, q, rfl⟩, fun i H v H' _ q y => ?_⟩
  obtain ⟨T, x, h1, h2, h3, h4⟩ := y
  exact ⟨T, .int (k + (i : Nat)), x, h1, h2, h3, rfl, h4 xs q⟩
/-! a def called with keywords alone -/
section
variable {X : Cx} {CX : CXT} {k : Nat} {f : Addr} {fd : FuncData} {ps ks : List Str} {sp : Sp} {E : XK} {x : Str} {p pos : Pos} {kws : List Keyword} {tk : TA} {g : List Value → List Value → List Value} {gV : List V → List V → List V}
def tCallK0 (sp : Sp) (gV : List V → List V → List V) (E : XK) (tk : TA) : TE := fun σ H Q => tk σ H fun zs H2 => sp (gV [] zs) H2 Q E
theorem pe_callK0 (F : FnOk X.prog X.w X.K X.mg X.base CX k f fd ps sp) (hr : Room k X.A) (hg : Gl X x) (hm : X.mg x = some (.ref f)) (hk : PySem.W.keepIn X.K (.ref f) = true) (hb : KBinds X.K fd ps ks g gV) (hx : Passes CX X E) (hkw : PK X kws tk)
    (hall : (backToKw pos (keywordEach kws X.env)).all (·.1.isSome) = true := by rfl) (hks : (backToKw pos (keywordEach kws X.env)).filterMap (·.1) = ks := by rfl) (hdb : (x == ("__debug__" : Str)) = false := by decide)
    (hpl : ((backTo pos (starEach [] X.env)).any (·.1) || (backToKw pos (keywordEach kws X.env)).any (·.1.isNone)) = false := by rfl) : PE X (.Call (.Name x p) [] kws pos) (tCallK0 sp gV E tk) := by
  refine ⟨fun pins s σ H Q I h => ?_⟩
  refine wpAny_Call_Name_kw (ld_glob I hg hm ?_ hdb)
  refine PySem.W.callWith_KW0 (h₀ := X.base) I.ok.mod.kin hk hall (thn (hkw.run pos pins s σ H _ I h) fun ws s2 ⟨zs, H2, I2, rz, q2⟩ => ⟨I2.kIn, ?_⟩) hpl
  rw [hks]
  exact run_fnk F hr hb hx I2 .nil rz q2
end
end Hw

set_option Elab.async false
set_option linter.all false
set_option maxRecDepth 100000
set_option maxHeartbeats 4000000
namespace Hw
open PySem L2 PyProof.Rows
/-! the less and the greater of two texts -/
def strLt (a b : Str) : Bool := decide (a.cps.toList < b.cps.toList)
def txtV : Value → Str
  | .str x _ => x
  | _ => Str.ofString ""
def IsS (v : Value) : Prop := ∃ x t, v = .str x t
theorem cmpS_lt {prog : Program} {w : World} {A : Around} (vs : Array Value) (hn : ∀ v ∈ vs, IsS v) :
    CmpOf prog w A .Lt (fun i v => vs[i]? = some v) (fun i j => strLt (txtV (vs.getD i .none)) (txtV (vs.getD j .none))) := fun i j vi vj s Q E hi hj h => by
  have e1 : vs.getD i .none = vi := by simp [Array.getD_eq_getD_getElem?, hi]
  have e2 : vs.getD j .none = vj := by simp [Array.getD_eq_getD_getElem?, hj]
  simp only [e1, e2] at h
  obtain ⟨x, t, rfl⟩ := hn _ (Array.mem_of_getElem? hi)
  obtain ⟨y, u, rfl⟩ := hn _ (Array.mem_of_getElem? hj)
  exact PyProof.Rows.lt_str h
theorem cmpS_gt {prog : Program} {w : World} {A : Around} (vs : Array Value) (hn : ∀ v ∈ vs, IsS v) :
    CmpOf prog w A .Gt (fun i v => vs[i]? = some v) (fun i j => strLt (txtV (vs.getD j .none)) (txtV (vs.getD i .none))) := fun i j vi vj s Q E hi hj h => by
  have e1 : vs.getD i .none = vi := by simp [Array.getD_eq_getD_getElem?, hi]
  have e2 : vs.getD j .none = vj := by simp [Array.getD_eq_getD_getElem?, hj]
  simp only [e1, e2] at h
  obtain ⟨x, t, rfl⟩ := hn _ (Array.mem_of_getElem? hi)
  obtain ⟨y, u, rfl⟩ := hn _ (Array.mem_of_getElem? hj)
  exact PySem.P.gt_str h
theorem max_two_S {prog : Program} {w : World} {A : Around} {E : Value → Shared → Prop} {s : Shared} {Q : Value → Shared → Prop} {a b : Value} (hh : A.handled = none) (ha : IsS a) (hb : IsS b)
    (h : ∀ h' tk, (∀ c o, s.heap.get? c = some o → h'.get? c = some o) → Q (if strLt (txtV a) (txtV b) then b else a) { s with heap := h', toks := tk }) :
    wpAny (model prog w) A (call (.builtin "max") [a, b]) Q E s := by
  have hT : (s.heap.push { cls := .type "tuple", data := .seq #[a, b] }).IsTuple s.heap.objs.size #[a, b] := ⟨_, Heap.get?_push_size _ rfl, rfl, 0, rfl⟩
  refine call_max_two (wpAny_pyIter_tuple hT ?_)
  have hsz : (s.heap.push { cls := .type "tuple", data := .seq #[a, b] }).objs.size = s.heap.objs.size + 1 := Heap.size_push ..
  refine ⟨_, [_, s.heap.objs.size], [_], _, _, _, _, rfl, Walks.tuple (A := A.in1) hh _ s.heap.objs.size (by rw [hsz]; exact Nat.ne_of_lt (Nat.lt_succ_self _)) #[a, b],
    ⟨⟨_, Heap.get?_push_size _ rfl, rfl, rfl⟩, hT.push _⟩, fun c hc => ?_, by simp, cmpS_gt #[a, b] (by simp [ha, hb]), fun v h' tk hP hk => ?_⟩
  · show c < ((s.heap.push _).push _).objs.size
    rw [Heap.size_push, hsz]
    rcases List.mem_cons.mp hc with rfl | hc
    · rw [hsz]; exact Nat.lt_succ_self _
    · rcases List.mem_cons.mp hc with rfl | hc
      · exact Nat.lt_succ_of_lt (Nat.lt_succ_self _)
      · cases hc
  · have hold : ∀ c o, s.heap.get? c = some o → h'.get? c = some o := fun c o e => by
      refine hk c o (fun hm => ?_) (Heap.get?_push_of_some _ (Heap.get?_push_of_some _ e))
      rcases List.mem_cons.mp hm with e1 | hm
      · have := Heap.lt_size e; rw [e1, hsz] at this; exact Nat.lt_irrefl _ (Nat.lt_of_succ_lt this)
      · cases hm
    have := h h' tk hold
    have hv : v = if strLt (txtV a) (txtV b) then b else a := by
      cases hc : strLt (txtV a) (txtV b) <;> simp [argBest, hc] at hP <;> simp [hP]
    rw [hv]; exact this
theorem min_two_S {prog : Program} {w : World} {A : Around} {E : Value → Shared → Prop} {s : Shared} {Q : Value → Shared → Prop} {a b : Value} (hh : A.handled = none) (ha : IsS a) (hb : IsS b)
    (h : ∀ h' tk, (∀ c o, s.heap.get? c = some o → h'.get? c = some o) → Q (if strLt (txtV b) (txtV a) then b else a) { s with heap := h', toks := tk }) :
    wpAny (model prog w) A (call (.builtin "min") [a, b]) Q E s := by
  have hT : (s.heap.push { cls := .type "tuple", data := .seq #[a, b] }).IsTuple s.heap.objs.size #[a, b] := ⟨_, Heap.get?_push_size _ rfl, rfl, 0, rfl⟩
  refine call_min_two (wpAny_pyIter_tuple hT ?_)
  have hsz : (s.heap.push { cls := .type "tuple", data := .seq #[a, b] }).objs.size = s.heap.objs.size + 1 := Heap.size_push ..
  refine ⟨_, [_, s.heap.objs.size], [_], _, _, _, _, rfl, Walks.tuple (A := A.in1) hh _ s.heap.objs.size (by rw [hsz]; exact Nat.ne_of_lt (Nat.lt_succ_self _)) #[a, b],
    ⟨⟨_, Heap.get?_push_size _ rfl, rfl, rfl⟩, hT.push _⟩, fun c hc => ?_, by simp, cmpS_lt #[a, b] (by simp [ha, hb]), fun v h' tk hP hk => ?_⟩
  · show c < ((s.heap.push _).push _).objs.size
    rw [Heap.size_push, hsz]
    rcases List.mem_cons.mp hc with rfl | hc
    · rw [hsz]; exact Nat.lt_succ_self _
    · rcases List.mem_cons.mp hc with rfl | hc
      · exact Nat.lt_succ_of_lt (Nat.lt_succ_self _)
      · cases hc
  · have hold : ∀ c o, s.heap.get? c = some o → h'.get? c = some o := fun c o e => by
      refine hk c o (fun hm => ?_) (Heap.get?_push_of_some _ (Heap.get?_push_of_some _ e))
      rcases List.mem_cons.mp hm with e1 | hm
      · have := Heap.lt_size e; rw [e1, hsz] at this; exact Nat.lt_irrefl _ (Nat.lt_of_succ_lt this)
      · cases hm
    have := h h' tk hold
    have hv : v = if strLt (txtV b) (txtV a) then b else a := by
      cases hc : strLt (txtV b) (txtV a) <;> simp [argBest, hc] at hP <;> simp [hP]
    rw [hv]; exact this
section
variable {X : Cx}
theorem call_maxS (hc : X.calm = true) : CallR X (.builtin "max") (fun xs H Q => ∃ a b, xs = [.str a, .str b] ∧ Q (.str (if strLt a b = true then b else a)) H) := by
  intro pins s σ H xs us Q I r h
  obtain ⟨i, j, rfl, q⟩ := h
  obtain ⟨u, w', rfl, ⟨t, rfl⟩, ⟨t', rfl⟩⟩ := vals2 r
  refine max_two_S (I.ok.hd hc) ⟨_, _, rfl⟩ ⟨_, _, rfl⟩ fun h' tk k => ⟨_, H, I.kept k, ?_, q⟩
  show RelV _ (if strLt i j = true then _ else _)
  by_cases hj : strLt i j = true
  · rw [if_pos hj, if_pos hj]; exact ⟨_, rfl⟩
  · rw [if_neg hj, if_neg hj]; exact ⟨_, rfl⟩
theorem call_minS (hc : X.calm = true) : CallR X (.builtin "min") (fun xs H Q => ∃ a b, xs = [.str a, .str b] ∧ Q (.str (if strLt b a = true then b else a)) H) := by
  intro pins s σ H xs us Q I r h
  obtain ⟨i, j, rfl, q⟩ := h
  obtain ⟨u, w', rfl, ⟨t, rfl⟩, ⟨t', rfl⟩⟩ := vals2 r
  refine min_two_S (I.ok.hd hc) ⟨_, _, rfl⟩ ⟨_, _, rfl⟩ fun h' tk k => ⟨_, H, I.kept k, ?_, q⟩
  show RelV _ (if strLt j i = true then _ else _)
  by_cases hj : strLt j i = true
  · rw [if_pos hj, if_pos hj]; exact ⟨_, rfl⟩
  · rw [if_neg hj, if_neg hj]; exact ⟨_, rfl⟩
/-! sorted over data, any number -/
def rSortB (K : PySem.W.Frag) : List V → Hp → VK → Prop := fun vs H Q => ∃ (a : Addr) (bs : List (V × PyData)), vs = [V.ref a] ∧ SqL K H a (bs.map (·.1)) ∧ (∀ b ∈ bs, Dp K H b.1 b.2 ∧ b.2.depth ≤ 50) ∧ PySem.W.AllAlike (bs.map (·.2)) ∧ PySem.W.Sortable (bs.map (·.2)) ∧ bs.length ≤ sizeLine ∧
  ∀ p, H p = none → Q (.ref p) (upd H p (.lst ((bs.mergeSort (PySem.W.dataLe false (·.2))).map (·.1))))
theorem each_of_vals {K : PySem.W.Frag} {P : Program} : ∀ {bs : List (V × PyData)} {us : List Value}, Vals (bs.map (·.1)) us → PySem.W.EachIs (fun (v : Value) (b : V × PyData) => RelV b.1 v) us bs
  | [], _, r => by cases r; exact .nil
  | b :: bs, _, r => by
    cases r with
    | cons r1 r2 => exact .cons r1 (each_of_vals (K := K) (P := P) r2)
theorem vals_of_each : ∀ {bs : List (V × PyData)} {us : List Value}, PySem.W.EachIs (fun (v : Value) (b : V × PyData) => RelV b.1 v) us bs → Vals (bs.map (·.1)) us
  | _, _, .nil => .nil
  | _, _, .cons r t => .cons r (vals_of_each t)
theorem reads_each {X : Cx} {pins : List (Addr × Obj)} {s : Shared} {σ : L2.St} {H : Hp} (I : Inv X pins σ H s) : ∀ {bs : List (V × PyData)} {us : List Value}, (∀ b ∈ bs, Dp X.K H b.1 b.2) → Vals (bs.map (·.1)) us → PySem.W.EachIs (fun (v : Value) (b : V × PyData) => ∃ as, Reads s.heap v b.2 as) us bs
  | [], _, _, r => by cases r; exact .nil
  | b :: bs, _, h, r => by
    cases r with
    | cons r1 r2 => exact .cons (Dp.reads I b.2 b.1 _ (h b List.mem_cons_self) r1) (reads_each I (fun b hb => h b (List.mem_cons_of_mem _ hb)) r2)
theorem cr_sortB (hu : X.A.units + 64 < cLine) : CallR X (.builtin "sorted") (rSortB X.K) := by
  intro pins s σ H vs us Q I r h
  obtain ⟨a, bs, rfl, hs, hd, hal, hk, hL, q⟩ := h
  obtain ⟨its, rv, hl, _⟩ := I.list hs
  rw [Vals.ref1 r]
  refine PySem.W.sorted_data (β := V × PyData) (vs := its) (bs := bs) (enc := (·.2)) (R := fun v b => RelV b.1 v) hl.isList (each_of_vals (K := X.K) (P := X.prog) rv) (reads_each I (fun b hb => (hd b hb).1) rv) hal hk hL (fun b hb => by have := (hd b hb).2; omega) fun out ho he => ?_
  have hv := vals_of_each he
  obtain ⟨ep, he'⟩ := PyProof.Rows.sortedAll_at s.heap its out.toArray
  have hlen : ((bs.mergeSort (PySem.W.dataLe false (·.2))).map (·.1)).length ≤ sizeLine := by rw [List.length_map, List.length_mergeSort]; exact hL
  exact ⟨.ref _, upd H (s.heap.objs.size + 1) (.lst ((bs.mergeSort (PySem.W.dataLe false (·.2))).map (·.1))), I.laid (t' := s.toks) (fun _ _ => PyProof.Rows.sortedAll_old) (Nat.le_succ _) ⟨hlen, out, ep, hv, he'⟩, rfl, q _ (I.hok.fresh (Nat.le_succ _))⟩
end

theorem walk_zipT {K : PySem.W.Frag} {a b : Addr} {xs ys : List V} {n : Nat} (hn : n = min xs.length ys.length) : Walk (RZ.ItzT K a b) n (fun H => SqT K H a xs ∧ SqT K H b ys) (YPair (fun i => xs[i]?) (fun i => ys[i]?)) := by
  subst hn
  refine ⟨fun i _ hi q => ?_, fun _ q => ⟨xs, ys, q.1, q.2, by omega⟩, fun i H v H' _ q y => ?_⟩
  · have h1 : i < xs.length := by omega
    have h2 : i < ys.length := by omega
    exact ⟨xs, ys, xs[i], ys[i], q.1, q.2, by simp [h1], by simp [h2]⟩
  · obtain ⟨T, x, z, h1, h2, h3, h4, h5⟩ := y
    exact ⟨T, x, z, h1, h2, h3, h4 xs q.1, h5 ys q.2⟩
/-! `<=` of two tuples of texts -/
theorem RcOp.le_str {A : Around} {s : Shared} (a b : Str) (t u : Tok) : Ob.RcOp .LtE A s (.str a t) (.str b u) (!strLt b a) := fun _ _ _ _ h => PySem.P.le_str h
def rLeS (K : PySem.W.Frag) : R2 := fun x y H Q => ∃ (a b : Addr) (ns ms : List Str), x = .ref a ∧ y = .ref b ∧ SqT K H a (ns.map V.str) ∧ SqT K H b (ms.map V.str) ∧
  Q (.bl (Ob.lexAt (fun j => ns.getD j (Str.ofString "") == ms.getD j (Str.ofString "")) (fun j => !strLt (ms.getD j (Str.ofString "")) (ns.getD j (Str.ofString ""))) (decide (ns.length ≤ ms.length)) 0 (min ns.length ms.length))) H
theorem str_item {us : List Value} {xs : List Str} (r : Vals (xs.map V.str) us) (j : Nat) (h : j < us.toArray.size) : ∃ t, us.toArray[j] = .str (xs.getD j (Str.ofString "")) t := by
  have h' : j < us.length := by simpa using h
  have hl := r.length
  rw [List.length_map] at hl
  obtain ⟨u, hu, ru⟩ := r.get (i := j) (x := V.str (xs.getD j (Str.ofString ""))) (by
    rw [List.getElem?_map, List.getElem?_eq_getElem (by omega : j < xs.length), List.getD_eq_getElem?_getD, List.getElem?_eq_getElem (by omega : j < xs.length)]; rfl)
  obtain ⟨t, rfl⟩ := ru
  refine ⟨t, ?_⟩
  rw [List.getElem?_eq_getElem h'] at hu
  simpa using Option.some.inj hu
theorem op_leS {X : Cx} (hu : X.A.units < cLine) : OpR X (compareOp .LtE) (rLeS X.K) := by
  intro pins s σ H x y v u Q I rx ry h
  obtain ⟨a, b, ns, ms, rfl, rfl, ha, hb, q⟩ := h
  cases rx
  cases ry
  obtain ⟨its, r1, p1, _⟩ := I.tuple ha
  obtain ⟨its2, r2, p2, _⟩ := I.tuple hb
  have e1 : its.toArray.size = ns.length := by rw [List.size_toArray, ← r1.length, List.length_map]
  have e2 : its2.toArray.size = ms.length := by rw [List.size_toArray, ← r2.length, List.length_map]
  have R := Ob.RcOp.tuples_le (A := X.A) (s := s) (e := fun j => ns.getD j (Str.ofString "") == ms.getD j (Str.ofString "")) (r := fun j => !strLt (ms.getD j (Str.ofString "")) (ns.getD j (Str.ofString ""))) p1 p2 hu (fun j h1 h2 => by
    obtain ⟨t, et⟩ := str_item r1 j h1
    obtain ⟨t', et'⟩ := str_item r2 j h2
    rw [et, et']
    exact SeqAt.EqAt.str_str _ _ _ _) (fun j h1 h2 _ => by
    obtain ⟨t, et⟩ := str_item r1 j h1
    obtain ⟨t', et'⟩ := str_item r2 j h2
    rw [et, et']
    exact RcOp.le_str _ _ _ _)
  rw [e1, e2] at R
  have z : wpAny (model X.prog X.w) X.A (compareOp .LtE (.ref a) (.ref b)) (EP X pins σ Q) X.xe s := R X.prog X.w X.xe (EP X pins σ Q) ⟨.bl _, H, I, rfl, q⟩
  exact z

/-! `v in x`, `v not in x` by the class's own `__contains__` -/
section
variable {X : Cx} {CX : CXT} {k : Nat} {f C : Addr} {fd : FuncData} {ps : List Str} {sp : Sp} {dvs : List V} {ds : List Value} {E : XK}
def rInM (C : Addr) (sp : Sp) (dvs : List V) (E : XK) (neg : Bool) : R2 := fun x y H Q => ∃ p dx fs, y = .ref p ∧ H p = some (.ins C dx fs) ∧ sp ([.ref p, x] ++ dvs) H (fun r H' => ∃ b, r = .bl b ∧ Q (.bl (if neg = true then !b else b)) H') E
theorem has_M {pins : List (Addr × Obj)} {s : Shared} {σ : L2.St} {H : Hp} {x : V} {v : Value} {p dx : Addr} {fs : List (Str × V)} {Qb : Bool → Shared → Prop} {Q' : VK} (I : Inv X pins σ H s) (rx : RelV x v) (hp : H p = some (.ins C dx fs)) (hm : Meth X.K C "__contains__" f) (F : FnOk X.prog X.w X.K X.mg X.base CX k f fd ps sp) (hr : Room k X.A) (hb : Binds X.K fd ps ds) (hd : Vals dvs ds) (hx : Passes CX X E)
    (h : sp ([.ref p, x] ++ dvs) H Q' E) (hq : ∀ u s1, EP X pins σ Q' u s1 → ∃ b, u = .bool b ∧ Qb b s1) : wpAny (model X.prog X.w) X.A (contains (.ref p) v) Qb X.xe s := by
  obtain ⟨mA, O, r, _⟩ := ins_get I.hok hp
  obtain ⟨od, J, hl⟩ := O.look
  unfold contains
  refine wpAny_holding (wpAny_bind (wpAny_bind (J.type.here ((PySem.W.looks_findIn I.kIn hm.at_).here ?_))))
  rw [if_neg (by simp)]
  refine wpAny_bind (PySem.W.unlessNone_K I.kIn J hm.at_ hm.fn ?_)
  refine thn (run_fn (us := [.ref p, v]) (vs := [.ref p, x]) F hr hb hd hx I (.cons rfl (.cons rx .nil)) h) fun u s1 hu => ?_
  obtain ⟨b, rfl, q⟩ := hq u s1 hu
  exact wpAny_truthy_bool q
theorem op_inM (hm : Meth X.K C "__contains__" f) (F : FnOk X.prog X.w X.K X.mg X.base CX k f fd ps sp) (hr : Room k X.A) (hb : Binds X.K fd ps ds) (hd : Vals dvs ds) (hx : Passes CX X E) : OpR X (compareOp .In) (rInM C sp dvs E false) := by
  intro pins s σ H x y v u Q I rx ry h
  obtain ⟨p, dx, fs, rfl, hp, h⟩ := h
  obtain rfl : u = Value.ref p := ry
  refine wpAny_bind (has_M (Qb := fun b s1 => wpAny (model X.prog X.w) X.A (pure (Value.bool b)) (EP X pins σ Q) X.xe s1) I rx hp hm F hr hb hd hx h fun u s1 hu => ?_)
  obtain ⟨z, H', I', rz, b, rfl, q⟩ := hu
  cases rz
  exact ⟨b, rfl, wpAny_pure ⟨.bl b, H', I', rfl, q⟩⟩
theorem op_notInM (hm : Meth X.K C "__contains__" f) (F : FnOk X.prog X.w X.K X.mg X.base CX k f fd ps sp) (hr : Room k X.A) (hb : Binds X.K fd ps ds) (hd : Vals dvs ds) (hx : Passes CX X E) : OpR X (compareOp .NotIn) (rInM C sp dvs E true) := by
  intro pins s σ H x y v u Q I rx ry h
  obtain ⟨p, dx, fs, rfl, hp, h⟩ := h
  obtain rfl : u = Value.ref p := ry
  refine wpAny_bind (has_M (Qb := fun b s1 => wpAny (model X.prog X.w) X.A (pure (Value.bool (!b))) (EP X pins σ Q) X.xe s1) I rx hp hm F hr hb hd hx h fun u s1 hu => ?_)
  obtain ⟨z, H', I', rz, b, rfl, q⟩ := hu
  cases rz
  exact ⟨b, rfl, wpAny_pure ⟨.bl (!b), H', I', rfl, q⟩⟩
end
end Hw

set_option Elab.async false
set_option linter.all false
set_option maxRecDepth 100000
namespace Hw
open PySem L2 PyProof.Rows
/-! texts as lists of codes -/
def SL (l : List Nat) : Str := ⟨l.toArray⟩
theorem SL_cps (l : List Nat) : (SL l).cps.toList = l := rfl
theorem SL_of (z : Str) : SL z.cps.toList = z := by obtain ⟨a⟩ := z; rfl
theorem str_ext {x y : Str} (h : x.cps.toList = y.cps.toList) : x = y := by rw [← SL_of x, ← SL_of y, h]
theorem SL_len (l : List Nat) : (SL l).length = l.length := by show l.toArray.size = l.length; simp
theorem len_cps (z : Str) : z.length = z.cps.toList.length := by obtain ⟨a⟩ := z; simp [Str.length]
theorem app_cps (x y : Str) : (x ++ y).cps.toList = x.cps.toList ++ y.cps.toList := by
  show (x.cps ++ y.cps).toList = _
  simp
theorem app_len (x y : Str) : (x ++ y).length = x.length + y.length := by rw [len_cps, len_cps, len_cps, app_cps, List.length_append]
theorem sjoin_cps0 : ∀ (cs : List Str), (Str.join (Str.ofString "") cs).cps.toList = cs.flatMap fun z => z.cps.toList
  | [] => rfl
  | [x] => by simp [Str.join]
  | x :: y :: r => by
    have ih := sjoin_cps0 (y :: r)
    have e : Str.join (Str.ofString "") (x :: y :: r) = x ++ Str.ofString "" ++ Str.join (Str.ofString "") (y :: r) := rfl
    rw [e, app_cps, app_cps, ih]
    show x.cps.toList ++ [] ++ _ = _
    rw [List.append_nil]; rfl
theorem join_cps0 (cs : List Str) : (Txt.join (Str.ofString "") cs).cps.toList = cs.flatMap fun z => z.cps.toList := by rw [TL.join_eq]; exact sjoin_cps0 cs
/-- a name: one to eight letters -/
def Nm (z : Str) : Prop := 1 ≤ z.length ∧ z.length ≤ 8 ∧ ∀ c ∈ z.cps.toList, 97 ≤ c ∧ c ≤ 122
instance (z : Str) : Decidable (Nm z) := by unfold Nm; exact inferInstance
/-- the words that are tried in the place of a word that is known -/
def cand (w : Str) : Nat → Str
  | 0 => w
  | k + 1 => SL ([97 + k / 26, 97 + k % 26] ++ w.cps.toList.drop 2)
theorem cand_drop (w : Str) : ∀ k, (cand w k).cps.toList.drop 2 = w.cps.toList.drop 2
  | 0 => rfl
  | k + 1 => by
    show (SL ([97 + k / 26, 97 + k % 26] ++ w.cps.toList.drop 2)).cps.toList.drop 2 = _
    rw [SL_cps]; rfl
theorem cand_nm {w : Str} (h : Nm w) {k : Nat} (hk : k ≤ 676) : Nm (cand w k) := by
  cases k with
  | zero => exact h
  | succ k =>
    obtain ⟨h1, h2, h3⟩ := h
    have e : (cand w (k + 1)).cps.toList = [97 + k / 26, 97 + k % 26] ++ w.cps.toList.drop 2 := SL_cps _
    have l : (cand w (k + 1)).length = 2 + (w.length - 2) := by
      rw [len_cps, e, List.length_append, List.length_drop, ← len_cps]; rfl
    refine ⟨by omega, by omega, fun c hc => ?_⟩
    rw [e] at hc
    rcases List.mem_append.mp hc with hc | hc
    · simp only [List.mem_cons, List.not_mem_nil, or_false] at hc
      rcases hc with rfl | rfl <;> omega
    · exact h3 c (List.mem_of_mem_drop hc)
theorem cand_inj {w : Str} {i j : Nat} (h : cand w (i + 1) = cand w (j + 1)) : i = j := by
  have e : ([97 + i / 26, 97 + i % 26] ++ w.cps.toList.drop 2) = ([97 + j / 26, 97 + j % 26] ++ w.cps.toList.drop 2) := by
    have z := congrArg (fun s : Str => s.cps.toList) h
    exact z
  injection e with e1 e2
  injection e2 with e2 e3
  omega
theorem sub_len {α : Type} [DecidableEq α] : ∀ {l m : List α}, l.Nodup → (∀ x ∈ l, x ∈ m) → l.length ≤ m.length
  | [], _, _, _ => Nat.zero_le _
  | a :: l, m, hn, hs => by
    obtain ⟨ha, hl⟩ := List.nodup_cons.mp hn
    have hm : a ∈ m := hs a List.mem_cons_self
    have ih := sub_len (m := m.erase a) hl fun x hx => by
      refine (List.mem_erase_of_ne ?_).mpr (hs x (List.mem_cons_of_mem _ hx))
      rintro rfl; exact ha hx
    have e := List.length_erase_of_mem hm
    have p : 0 < m.length := List.length_pos_of_mem hm
    rw [List.length_cons]; omega
theorem cand_few {w : Str} {ks : List Str} {k : Nat} (h : ∀ j, j < k → cand w j ∈ ks) : k ≤ ks.length + 1 := by
  cases k with
  | zero => omega
  | succ k =>
    have z := sub_len (l := (List.range k).map fun j => cand w (j + 1)) (m := ks) ?_ ?_
    · rw [List.length_map, List.length_range] at z; omega
    · rw [List.Nodup, List.pairwise_map]
      exact List.Pairwise.imp (fun {i j} hij e => hij (cand_inj e)) (List.nodup_range (n := k))
    · intro x hx
      obtain ⟨j, hj, rfl⟩ := List.mem_map.mp hx
      exact h (j + 1) (by have := List.mem_range.mp hj; omega)
def alpha : Str := Str.ofString "abcdefghijklmnopqrstuvwxyz"
theorem alpha_at : ∀ k, k < 26 → alpha.cps.toList[k]? = some (97 + k) := by decide +kernel
theorem alpha_mem : ∀ c ∈ alpha.cps.toList, 97 ≤ c ∧ c ≤ 122 := by decide +kernel
theorem alpha_len : alpha.length = 26 := by decide +kernel
theorem ones_join (cs : List Nat) : (Txt.join (Str.ofString "") (cs.map fun c => SL [c])).cps.toList = cs := by
  rw [join_cps0, List.flatMap_map]
  induction cs with
  | nil => rfl
  | cons c cs ih =>
    rw [List.flatMap_cons, ih]; rfl
end Hw

set_option Elab.async false
set_option linter.all false
set_option maxRecDepth 100000
set_option maxHeartbeats 4000000
namespace Hw
open PySem PySem.Spec L2 PyProof.Rows
/-! the order of texts and of pairs of texts -/
theorem strLt_irr (a : Str) : strLt a a = false := decide_eq_false (List.lt_irrefl _)
theorem strLt_tr {a b c : Str} (h : strLt a b = true) (h' : strLt b c = true) : strLt a c = true := decide_eq_true (List.lt_trans (of_decide_eq_true h) (of_decide_eq_true h'))
theorem strLt_as {a b : Str} (h : strLt a b = true) : strLt b a = false := by
  cases e : strLt b a with
  | false => rfl
  | true => have := strLt_tr h e; rw [strLt_irr] at this; cases this
theorem strLt_tri {a b : Str} (h : strLt a b = false) (h' : strLt b a = false) : a = b := by
  refine str_ext (List.le_antisymm ?_ ?_)
  · exact List.not_lt.mp (of_decide_eq_false h')
  · exact List.not_lt.mp (of_decide_eq_false h)
theorem strLt_ne {a b : Str} (h : strLt a b = true) : a ≠ b := fun e => by rw [e, strLt_irr] at h; cases h
def leS (a b : Str) : Bool := !strLt b a
theorem leS_tr (a b c : Str) (h : leS a b = true) (h' : leS b c = true) : leS a c = true := by
  unfold leS at *
  cases e : strLt c a with
  | false => rfl
  | true =>
    cases e1 : strLt b a with
    | true => rw [e1] at h; cases h
    | false =>
      cases e2 : strLt a b with
      | true => rw [strLt_tr e e2] at h'; cases h'
      | false => rw [strLt_tri e1 e2, e] at h'; cases h'
theorem leS_tot (a b : Str) : (leS a b || leS b a) = true := by
  unfold leS
  cases e : strLt b a with
  | false => rfl
  | true => rw [strLt_as e]; rfl
theorem leS_anti {a b : Str} (h : leS a b = true) (h' : leS b a = true) : a = b := by
  unfold leS at h h'
  exact strLt_tri (by simpa using h') (by simpa using h)
def sortS (l : List Str) : List Str := l.mergeSort leS
def Asc (l : List Str) : Prop := l.Pairwise fun a b => strLt a b = true
theorem sortS_perm (l : List Str) : (sortS l).Perm l := List.mergeSort_perm l leS
theorem sortS_le (l : List Str) : (sortS l).Pairwise fun a b => leS a b = true := List.pairwise_mergeSort leS_tr leS_tot l
theorem asc_of_le {l : List Str} (h : l.Pairwise fun a b => leS a b = true) (hn : l.Nodup) : Asc l := by
  refine (h.and hn).imp ?_
  rintro a b ⟨h1, h2⟩
  cases e : strLt a b with
  | true => rfl
  | false => exact absurd (strLt_tri e (by simpa [leS] using h1)) h2
theorem sortS_asc {l : List Str} (h : l.Nodup) : Asc (sortS l) := asc_of_le (sortS_le l) ((sortS_perm l).nodup_iff.mpr h)
theorem Asc.nodup {l : List Str} (h : Asc l) : l.Nodup := h.imp fun q => strLt_ne q
theorem Asc.le {l : List Str} (h : Asc l) : l.Pairwise fun a b => leS a b = true := h.imp fun q => by unfold leS; rw [strLt_as q]; rfl
theorem sortS_eq {l m : List Str} (h : m.Perm l) (hm : m.Pairwise fun a b => leS a b = true) : m = sortS l :=
  List.Perm.eq_of_pairwise (le := fun a b => leS a b = true) (fun a b _ _ h1 h2 => leS_anti h1 h2) hm (sortS_le l) (h.trans (sortS_perm l).symm)
theorem sortS_asc_id {l : List Str} (h : Asc l) : sortS l = l := (sortS_eq (.refl _) h.le).symm
theorem sortS_of_perm {l m : List Str} (h : l.Perm m) : sortS l = sortS m := sortS_eq ((sortS_perm l).trans h) (sortS_le l)
theorem risingS_le : ∀ (l : List Str) (p : Str), risingS p l = true → (p :: l).Pairwise fun a b => leS a b = true
  | [], _, _ => List.pairwise_singleton _ _
  | x :: r, p, h => by
    have h' : (!ltCps x.cps.toList p.cps.toList && risingS x r) = true := h
    rw [Bool.and_eq_true] at h'
    have ih := risingS_le r x h'.2
    have hpx : leS p x = true := by
      have := h'.1
      rw [PyProof.Rows.ltCps_eq] at this
      exact this
    refine List.pairwise_cons.mpr ⟨fun y hy => ?_, ih⟩
    rcases List.mem_cons.mp hy with rfl | hy
    · exact hpx
    · exact leS_tr _ _ _ hpx ((List.pairwise_cons.mp ih).1 y hy)
theorem sortedS_le : ∀ {l : List Str}, sortedS l = true → l.Pairwise fun a b => leS a b = true
  | [], _ => .nil
  | x :: r, h => risingS_le r x h
theorem sortedS_eq {l m : List Str} (h : m.Perm l) (hm : sortedS m = true) : m = sortS l := sortS_eq h (sortedS_le hm)
abbrev Tie := Str × Str
def ltP (p q : Tie) : Bool := if p.1 == q.1 then strLt p.2 q.2 else strLt p.1 q.1
def leP (p q : Tie) : Bool := !ltP q p
theorem ltP_irr (p : Tie) : ltP p p = false := by unfold ltP; rw [if_pos (beq_self_eq_true _), strLt_irr]
theorem ltP_iff {p q : Tie} : ltP p q = true ↔ strLt p.1 q.1 = true ∨ p.1 = q.1 ∧ strLt p.2 q.2 = true := by
  unfold ltP
  by_cases h : p.1 = q.1
  · rw [if_pos (beq_iff_eq.mpr h), h, strLt_irr]; simp
  · rw [if_neg (by simpa using h)]; simp [h]
theorem ltP_tr {p q r : Tie} (h : ltP p q = true) (h' : ltP q r = true) : ltP p r = true := by
  rw [ltP_iff] at *
  rcases h with h | ⟨e, h⟩ <;> rcases h' with h' | ⟨e', h'⟩
  · exact .inl (strLt_tr h h')
  · exact .inl (e' ▸ h)
  · exact .inl (e ▸ h')
  · exact .inr ⟨e.trans e', strLt_tr h h'⟩
theorem ltP_tri {p q : Tie} (h : ltP p q = false) (h' : ltP q p = false) : p = q := by
  have a : ¬ (ltP p q = true) := by rw [h]; exact Bool.false_ne_true
  have b : ¬ (ltP q p = true) := by rw [h']; exact Bool.false_ne_true
  rw [ltP_iff] at a b
  have e : p.1 = q.1 := strLt_tri (by simpa using fun z => a (.inl z)) (by simpa using fun z => b (.inl z))
  have e2 : p.2 = q.2 := strLt_tri (by simpa using fun z => a (.inr ⟨e, z⟩)) (by simpa using fun z => b (.inr ⟨e.symm, z⟩))
  exact Prod.ext e e2
theorem ltP_as {p q : Tie} (h : ltP p q = true) : ltP q p = false := by
  cases e : ltP q p with
  | false => rfl
  | true => have := ltP_tr h e; rw [ltP_irr] at this; cases this
theorem leP_tr (a b c : Tie) (h : leP a b = true) (h' : leP b c = true) : leP a c = true := by
  unfold leP at *
  cases e : ltP c a with
  | false => rfl
  | true =>
    cases e1 : ltP b a with
    | true => rw [e1] at h; cases h
    | false =>
      cases e2 : ltP a b with
      | true => rw [ltP_tr e e2] at h'; cases h'
      | false => rw [ltP_tri e1 e2, e] at h'; cases h'
theorem leP_tot (a b : Tie) : (leP a b || leP b a) = true := by
  unfold leP
  cases e : ltP b a with
  | false => rfl
  | true => rw [ltP_as e]; rfl
def sortP (l : List Tie) : List Tie := l.mergeSort leP
def AscP (l : List Tie) : Prop := l.Pairwise fun a b => ltP a b = true
theorem sortP_perm (l : List Tie) : (sortP l).Perm l := List.mergeSort_perm l leP
theorem sortP_le (l : List Tie) : (sortP l).Pairwise fun a b => leP a b = true := List.pairwise_mergeSort leP_tr leP_tot l
theorem sortP_asc {l : List Tie} (hn : l.Nodup) : AscP (sortP l) := by
  refine ((sortP_le l).and ((sortP_perm l).nodup_iff.mpr hn)).imp ?_
  rintro a b ⟨h1, h2⟩
  cases e : ltP a b with
  | true => rfl
  | false => exact absurd (ltP_tri e (by simpa [leP] using h1)) h2
/-! sorted of texts, of pairs of texts -/
def tieD (p : Tie) : PyData := .tuple [.str p.1, .str p.2]
theorem dataLe_tie (p q : Tie) : PySem.W.dataLe false id (tieD p) (tieD q) = leP p q := by
  rw [PySem.W.dataLe_eq]
  show (!PySem.W.dataLt (tieD q) (tieD p)) = _
  unfold tieD leP ltP
  rw [PySem.W.dataLt_pair (by simp [PySem.W.alike]) (by simp [PySem.W.alike]), PySem.W.dataLt_str, PySem.W.dataLt_str]
  simp only [PyData.eqv]
  by_cases h1 : q.1 = p.1
  · by_cases h2 : q.2 = p.2
    · simp [h1, h2, strLt]
    · simp [h1, h2, strLt]
  · simp [h1, strLt]
section
variable {X : Cx}
def rSortT (K : PySem.W.Frag) : List V → Hp → VK → Prop := fun vs H Q => ∃ (a : Addr) (zs : List Str), vs = [V.ref a] ∧ SqL K H a (zs.map V.str) ∧ zs.length ≤ sizeLine ∧ ∀ p, H p = none → Q (.ref p) (upd H p (.lst ((sortS zs).map V.str)))
theorem cr_sortT (hu : X.A.units + 64 < cLine) : CallR X (.builtin "sorted") (rSortT X.K) := by
  intro pins s σ H vs us Q I r h
  obtain ⟨a, zs, rfl, hs, hz, q⟩ := h
  have e1 : (zs.map fun z => (V.str z, PyData.str z)).map (·.1) = zs.map V.str := by rw [List.map_map]; rfl
  have e2 : (zs.map fun z => (V.str z, PyData.str z)).map (·.2) = zs.map PyData.str := by rw [List.map_map]; rfl
  refine cr_sortB hu pins s σ H _ us Q I r ⟨a, zs.map fun z => (V.str z, PyData.str z), rfl, by rw [e1]; exact hs, fun b hb => ?_, ?_, ?_, by rw [List.length_map]; exact hz, fun p hp => ?_⟩
  · obtain ⟨z, _, rfl⟩ := List.mem_map.mp hb
    exact ⟨Dp_flat rfl, by show PyData.depth (.str z) ≤ 50; rw [PyData.depth]; decide⟩
  · rw [e2]; exact PySem.W.AllAlike.of fun _ _ => by simp [PySem.W.alike]
  · rw [e2]; exact PySem.W.Sortable.others (enc := PyData.str) fun z => ⟨(fun e => nomatch e), fun xs e => nomatch e⟩
  · have e : (zs.map fun z => (V.str z, PyData.str z)).mergeSort (PySem.W.dataLe false (·.2)) = (sortS zs).map fun z => (V.str z, PyData.str z) := by
      refine (List.map_mergeSort fun a _ b _ => ?_).symm
      rw [PySem.W.dataLe_eq]
      show leS a b = !PySem.W.dataLt (.str b) (.str a)
      rw [PySem.W.dataLt_str]; rfl
    rw [e, List.map_map]
    exact q p hp

def TieAt (K : PySem.W.Frag) (H : Hp) (q : Addr) (p : Tie) : Prop := SqT K H q [.str p.1, .str p.2]
theorem zip_of {α β : Type} {F : α → β → Prop} : ∀ {xs : List α} {ys : List β}, Paired F xs ys → ∃ l : List (α × β), l.map (·.1) = xs ∧ l.map (·.2) = ys ∧ ∀ p ∈ l, F p.1 p.2
  | _, _, .nil => ⟨[], rfl, rfl, fun _ z => nomatch z⟩
  | _, _, .cons (a := a) (b := b) h t => by
    obtain ⟨l, rfl, rfl, h3⟩ := zip_of t
    refine ⟨(a, b) :: l, rfl, rfl, fun p hp => ?_⟩
    rcases List.mem_cons.mp hp with rfl | hp
    · exact h
    · exact h3 p hp
theorem paired_of {α β : Type} {F : α → β → Prop} : ∀ {l : List (α × β)}, (∀ p ∈ l, F p.1 p.2) → Paired F (l.map (·.1)) (l.map (·.2))
  | [], _ => .nil
  | p :: l, h => .cons (h p List.mem_cons_self) (paired_of fun q hq => h q (List.mem_cons_of_mem _ hq))
theorem paired_mem {α β : Type} {F : α → β → Prop} : ∀ {l : List (α × β)}, Paired F (l.map (·.1)) (l.map (·.2)) → ∀ p ∈ l, F p.1 p.2
  | [], _, _, z => nomatch z
  | q :: l, h, p, hp => by
    cases h with
    | cons h1 h2 =>
      rcases List.mem_cons.mp hp with rfl | hp
      · exact h1
      · exact paired_mem h2 p hp
def rSortTP (K : PySem.W.Frag) : List V → Hp → VK → Prop := fun vs H Q => ∃ (a : Addr) (qs : List Addr) (ps : List Tie), vs = [V.ref a] ∧ SqL K H a (qs.map V.ref) ∧ Paired (TieAt K H) qs ps ∧ ps.length ≤ sizeLine ∧
  ∀ p qs', H p = none → (∀ R : Addr → Tie → Prop, Paired R qs ps → Paired R qs' (sortP ps)) → Q (.ref p) (upd H p (.lst (qs'.map V.ref)))
theorem cr_sortTP (hu : X.A.units + 64 < cLine) : CallR X (.builtin "sorted") (rSortTP X.K) := by
  intro pins s σ H vs us Q I r h
  obtain ⟨a, qs, ps, rfl, hs, hp, hz, q⟩ := h
  obtain ⟨l, rfl, rfl, hl⟩ := zip_of hp
  have e1 : (l.map fun x => (V.ref x.1, tieD x.2)).map (·.1) = (l.map (·.1)).map V.ref := by rw [List.map_map, List.map_map]; rfl
  have e2 : (l.map fun x => (V.ref x.1, tieD x.2)).map (·.2) = (l.map (·.2)).map tieD := by rw [List.map_map, List.map_map]; rfl
  rw [List.length_map] at hz
  refine cr_sortB hu pins s σ H _ us Q I r ⟨a, l.map fun x => (V.ref x.1, tieD x.2), rfl, by rw [e1]; exact hs, fun b hb => ?_, ?_, ?_, by rw [List.length_map]; exact hz, fun p hp => ?_⟩
  · obtain ⟨z, hz, rfl⟩ := List.mem_map.mp hb
    refine ⟨.tup (hl z hz) (.cons (Dp_flat rfl) (.cons (Dp_flat rfl) .nil)), ?_⟩
    show PyData.depth (tieD z.2) ≤ 50
    unfold tieD
    simp [PyData.depth, PyData.depthAll]
  · rw [e2]; exact PySem.W.AllAlike.of fun _ _ => by simp [PySem.W.alike, PySem.W.alikeAll, tieD]
  · rw [e2]; exact PySem.W.Sortable.tuples (enc := tieD) fun z => ⟨_, _, rfl⟩
  · have e : (l.map fun x => (V.ref x.1, tieD x.2)).mergeSort (PySem.W.dataLe false (·.2)) = (l.mergeSort fun x y => leP x.2 y.2).map fun x => (V.ref x.1, tieD x.2) := by
      refine (List.map_mergeSort fun a _ b _ => ?_).symm
      exact (dataLe_tie a.2 b.2).symm
    have e3 : (l.mergeSort fun x y => leP x.2 y.2).map (·.2) = sortP (l.map (·.2)) := List.map_mergeSort fun a _ b _ => rfl
    rw [e, List.map_map]
    have := q p ((l.mergeSort fun x y => leP x.2 y.2).map (·.1)) hp (fun R hR => by
      rw [← e3]
      exact paired_of fun x hx => paired_mem hR x (List.mem_mergeSort.mp hx))
    rw [List.map_map] at this
    exact this
end
end Hw

set_option Elab.async false
set_option linter.all false
set_option maxRecDepth 100000
set_option maxHeartbeats 4000000
namespace Hw
open PySem L2 PyProof.Rows
/-! max(xs), xs a list of data -/
def rMaxB (K : PySem.W.Frag) : List V → Hp → VK → Prop := fun vs H Q => ∃ (a : Addr) (b0 : V × PyData) (bs : List (V × PyData)), vs = [V.ref a] ∧ SqL K H a ((b0 :: bs).map (·.1)) ∧ (∀ b ∈ b0 :: bs, Dp K H b.1 b.2 ∧ b.2.depth ≤ 50) ∧ PySem.W.AlikeAll ((b0 :: bs).map (·.2)) ∧
  ∀ b ∈ b0 :: bs, b.2 = PySem.W.maxD b0.2 (bs.map (·.2)) → Q b.1 H
theorem readsAll_vals {X : Cx} {pins : List (Addr × Obj)} {s : Shared} {σ : L2.St} {H : Hp} (I : Inv X pins σ H s) : ∀ {bs : List (V × PyData)} {us : List Value}, (∀ b ∈ bs, Dp X.K H b.1 b.2) → Vals (bs.map (·.1)) us → ∃ as, ReadsAll s.heap us (bs.map (·.2)) as
  | [], _, _, r => by cases r; exact ⟨_, .nil⟩
  | b :: bs, _, h, r => by
    cases r with
    | cons r1 r2 =>
      obtain ⟨as, x⟩ := Dp.reads I b.2 b.1 _ (h b List.mem_cons_self) r1
      obtain ⟨as', y⟩ := readsAll_vals I (fun b hb => h b (List.mem_cons_of_mem _ hb)) r2
      exact ⟨_, .cons x y⟩
theorem depthAll_le50 : ∀ {ds : List PyData} {n : Nat}, (∀ d ∈ ds, d.depth ≤ n) → PyData.depthAll ds ≤ n
  | [], _, _ => by rw [PyData.depthAll]; exact Nat.zero_le _
  | d :: ds, n, h => by
    rw [PyData.depthAll]
    have h1 := h d List.mem_cons_self
    have h2 := depthAll_le50 fun x hx => h x (List.mem_cons_of_mem _ hx)
    omega
section
variable {X : Cx}
theorem cr_maxB (hc : X.calm = true) (hu : X.A.units + 64 < cLine) : CallR X (.builtin "max") (rMaxB X.K) := by
  intro pins s σ H vs us Q I r h
  obtain ⟨a, b0, bs, rfl, hs, hd, hal, q⟩ := h
  obtain ⟨its, rv, hl, _⟩ := I.list hs
  rw [Vals.ref1 r]
  obtain ⟨as, hr⟩ := readsAll_vals I (fun b hb => (hd b hb).1) rv
  have hdep : PyData.depthAll ((b0 :: bs).map (·.2)) ≤ 50 := depthAll_le50 fun d hd' => by
    obtain ⟨b, hb, rfl⟩ := List.mem_map.mp hd'
    exact (hd b hb).2
  have hr' : ReadsAll s.heap its.toArray.toList (b0.2 :: bs.map (·.2)) as := hr
  refine PySem.W.max_list_data (x := b0.2) (xs := bs.map fun b : V × PyData => b.2) (I.ok.hd hc) hl.isList hr' hal (by
    have e : PyData.depthAll (b0.2 :: bs.map (·.2)) ≤ 50 := hdep
    omega) fun i v h' tk bs' hv hR hk => ?_
  have hv' : its[i]? = some v := by simpa using hv
  have hlen := rv.length
  obtain ⟨b, hb, rb⟩ : ∃ b, (b0 :: bs)[i]? = some b ∧ RelV b.1 v := by
    have hi := (List.getElem?_eq_some_iff.mp hv').1
    have hi2 : i < (b0 :: bs).length := by rw [List.length_map] at hlen; omega
    have e1 : ((b0 :: bs).map (·.1))[i]? = some ((b0 :: bs)[i]).1 := by rw [List.getElem?_map, List.getElem?_eq_getElem hi2]; rfl
    obtain ⟨u, hu1, hu2⟩ := rv.get e1
    rw [hv'] at hu1
    cases hu1
    exact ⟨_, List.getElem?_eq_getElem hi2, hu2⟩
  have hbm := List.mem_of_getElem? hb
  obtain ⟨as2, hR2⟩ := Dp.reads I b.2 b.1 _ (hd b hbm).1 rb
  have e := (reads_det (fun c o e _ => hk c o e) hR2 hR).1
  exact ⟨b.1, H, I.kept hk, rb, q b hbm e.symm⟩
end
/-! x, *y = a list -/
section
variable {X : Cx}
theorem walks_tail {prog : Program} {w : World} {A : Around} (hh : A.handled = none) (I ax : Addr) (hne : ax ≠ I) (items : Array Value) :
    Walks prog w A I [I, ax] [I] (items.size - 1) (fun i v => items[i + 1]? = some v) (fun i h => h.IsListIter I ax (i + 1) ∧ h.IsList ax items ∧ 0 < items.size) where
  sub := fun b hb => by simp at hb; simp [hb]
  frame := fun _ _ _ st hk => ⟨st.1.at fun o e => hk I (by simp) o e, st.2.1.at fun o e => hk ax (by simp) o e, st.2.2⟩
  item := fun i s Q E hi st hQ => by
    refine wpAny_pyNext_list_item st.1 st.2.1 (x := items[i + 1]) (by simp) fun h' hit' hs' => ?_
    exact hQ _ h' s.toks (by simp) ⟨hit', st.2.1.extBut hs'.extBut hne, st.2.2⟩ fun b o hb e => hs'.extBut b o (fun h => hb (by simp [h])) e
  done := fun s Q E st hQ => wpAny_pyNext_list_end hh st.1 st.2.1 (by have := st.2.2; simp; omega) fun h' he' => hQ h' s.toks fun b o hb e => he' b o (fun h => hb (by simp [h])) e
  self := fun _ _ _ _ st hQ => wpAny_pyIter_listiter st.1 hQ
theorem unpack_star {prog : Program} {w : World} {A : Around} {E : Value → Shared → Prop} {s : Shared} {l : Addr} {its : List Value} {x : Value} {Q : List Value → Shared → Prop} (hh : A.handled = none) (hl : s.heap.IsList l (x :: its).toArray) (hn : its.length < sizeLine)
    (h : ∀ (hp : Heap) (tk : Nat), (∀ b o, s.heap.get? b = some o → hp.get? b = some o) → Q [x, .ref hp.objs.size] { s with heap := hp.push { cls := .type "list", data := .seq its.toArray }, toks := tk }) :
    wpAny (model prog w) A (unpackItems (.ref l) 2 (some 1)) Q E s := by
  have hlt : l < s.heap.objs.size := by obtain ⟨_, e, _⟩ := hl; exact Heap.lt_size e
  unfold unpackItems
  refine wpAny_bind ?_
  unfold notIterableAtAll
  refine wpAny_bind (wpAny_specialOf hl.typeIs F.slot_list_iter.lookup ?_)
  refine wpAny_pure ?_
  simp only [Bool.false_eq_true, if_false]
  refine wpAny_bind (wpAny_holding (wpAny_pyIter_list hl ?_))
  have hit : (s.heap.push { cls := .type "list_iterator", data := .fields #[.ref l, .int 0 0] }).IsListIter s.heap.objs.size l 0 := ⟨_, Heap.get?_push_size _ rfl, rfl, rfl⟩
  have hne : l ≠ s.heap.objs.size := Nat.ne_of_lt hlt
  refine wpAny_bind (wpAny_holding ?_)
  show wpAny _ _ (pyNext (.ref s.heap.objs.size) >>= _) _ _ _
  refine wpAny_bind (wpAny_pyNext_list_item hit (hl.push _) (x := x) (by simp) fun h₁ hit₁ hs₁ => ?_)
  refine wpAny_bind (wpAny_holding ?_)
  show wpAny _ _ (pure []) _ _ _
  refine wpAny_pure (wpAny_pure ?_)
  rw [if_neg (by simp)]
  have hl₁ : h₁.IsList l (x :: its).toArray := (hl.push _).extBut hs₁.extBut hne
  have k₁ : ∀ b o, s.heap.get? b = some o → h₁.get? b = some o := fun b o e => hs₁.extBut b o (Nat.ne_of_lt (Heap.lt_size e)) (Heap.get?_push_of_some _ e)
  have hsz1 : s.heap.objs.size < h₁.objs.size := by obtain ⟨_, e, _⟩ := hit₁; exact Heap.lt_size e
  have hl1lt : l < h₁.objs.size := by obtain ⟨_, e, _⟩ := hl₁; exact Heap.lt_size e
  refine wpAny_bind (wpAny_holding ?_)
  refine wpAny_collect_iter (s := { s with heap := h₁ }) (T := "list_iterator") (.inr (.inr (.inl rfl))) (walks_tail (A := A.in1) hh s.heap.objs.size l hne (x :: its).toArray).toS (fun i s' st => st.1.typeIs) ⟨hit₁, hl₁, by simp⟩ (fun b hb => ?_) (by simp) (fun s' acc m hI => ?_) (by simp; omega)
  · rcases List.mem_cons.mp hb with rfl | hb
    · exact hsz1
    · rcases List.mem_cons.mp hb with rfl | hb
      · exact hl1lt
      · cases hb
  have hacc : acc.toList = its := by
    obtain ⟨e1, e2⟩ := hI
    have e1 : acc.size = its.length := by rw [e1]; simp
    refine List.ext_getElem (by simpa using e1) fun i h1 h2 => ?_
    have h3 : i < acc.size := by simpa using h1
    have := e2 i acc[i] (by simp [h3])
    have e4 : (x :: its)[i + 1]? = some acc[i] := by simpa using this
    rw [List.getElem?_cons_succ, List.getElem?_eq_getElem h2] at e4
    simpa using (Option.some.inj e4).symm
  rw [hacc]
  show wpAny _ _ (if its.length < 2 - 1 - 1 then _ else _) _ _ _
  rw [if_neg (by omega)]
  show wpAny _ _ (newList (its.take (its.length - (2 - 1 - 1))) >>= _) _ _ _
  have e0 : its.take (its.length - (2 - 1 - 1)) = its := by rw [show its.length - (2 - 1 - 1) = its.length from by omega, List.take_length]
  rw [e0]
  have e9 : its.drop (its.length - (2 - 1 - 1)) = [] := by rw [show its.length - (2 - 1 - 1) = its.length from by omega, List.drop_length]
  refine wpAny_bind (wpAny_newList ?_ (by omega))
  refine wpAny_pure ?_
  rw [e9]
  obtain ⟨hp, g, d, tk, os⟩ := s'
  have eg : g = s.gens := m.gens
  have ed : d = s.drawn := m.drawn
  have eo : os = s.os := m.os
  subst eg; subst ed; subst eo
  have k₂ : ∀ b o, s.heap.get? b = some o → hp.get? b = some o := fun b o e => m.heap b o (fun hb => by
    rw [List.mem_singleton.mp hb] at e
    exact absurd (Heap.lt_size e) (Nat.lt_irrefl _)) (k₁ b o e)
  exact h hp tk k₂
def gStar2 (K : PySem.W.Frag) (g1 g2 : TG) : TG := fun v σ H Q => ∃ (a : Addr) (x : V) (xs : List V), v = .ref a ∧ SqL K H a (x :: xs) ∧ xs.length < sizeLine ∧ ∀ p, H p = none → g1 x σ (upd H p (.lst xs)) fun σ1 H1 => g2 (.ref p) σ1 H1 Q
theorem pg_star2 {e1 e2 : Expr} {k : Nat} {pos sp : Pos} {g1 g2 : TG} (hc : X.calm = true) (h1 : PG X e1 g1) (h2 : PG X e2 g2) (hae : assignEach [e1, .Starred e2 sp] X.env = [(false, assign e1 X.env), (true, assign e2 X.env)] := by rfl) : PG X (.Tuple [e1, .Starred e2 sp] k pos) (gStar2 X.K g1 g2) := by
  refine ⟨fun pins s σ H v u Q I r hw => ?_⟩
  obtain ⟨a, x, xs, rfl, hq, hl, hw⟩ := hw
  cases r
  obtain ⟨its, rv, hl2, _⟩ := I.list hq
  rw [assign_Tuple]
  refine wpAny_bind (wpAny_standAt ?_)
  unfold unpack
  rw [hae]
  cases rv with
  | @cons _ u _ us r1 r2 =>
    refine wpAny_bind (wpAny_holding (unpack_star (I.ok.hd hc) hl2.isList (by have := r2.length; omega) fun hp tk k => ?_))
    have I1 : Inv X pins σ H { s with heap := hp, toks := tk } := I.kept (t' := tk) k
    have hget : (hp.push { cls := .type "list", data := .seq us.toArray }).get? hp.objs.size = some { cls := .type "list", data := .seq us.toArray } := Heap.get?_push_size _ rfl
    have I2 := I1.laid (t' := tk) (a := hp.objs.size) (o := .lst xs) (h' := hp.push { cls := .type "list", data := .seq us.toArray }) (fun b o e => Heap.get?_push_of_some _ e) (Nat.le_refl _) ⟨Nat.le_of_lt hl, us, _, r2, hget⟩
    have fin := hw hp.objs.size (I1.hok.fresh (Nat.le_refl _))
    show wpAny _ _ (assignInOrder [assign e1 X.env, assign e2 X.env] [u, .ref hp.objs.size]) _ _ _
    refine assignInOrder_cons (thn (h1.run pins _ σ _ _ _ _ I2 r1 fin) fun _ s1 ⟨σ1, H1, I3, q1⟩ => ?_)
    refine assignInOrder_cons (thn (h2.run pins s1 σ1 H1 (.ref hp.objs.size) _ _ I3 rfl q1) fun _ s2 ⟨σ2, H2, I4, q2⟩ => ?_)
    exact assignInOrder_nil ⟨σ2, H2, I4, q2⟩
end
/-- a dict comprehension, over anything that is walked -/
theorem dct_it {J : It} {n : Nat} {G : Hp → Prop} {Y : Nat → Hp → V → Hp → Prop} (wk : Walk J n G Y) {g : TG} {tt : TT} {tk tv : TE} {vs : List Nat} {σ : L2.St} {H1 : Hp} {D : Addr} {Qd : Hp → Prop} (Pv : Nat → Hp → Prop) (h0 : Pv 0 (upd H1 D (.dK []))) (hG : ∀ i H, i ≤ n → Pv i H → G H)
    (turn : ∀ i x H H', i < n → Pv i H → Y i H x H' → g x (wipe σ vs) H' fun σ2 H2 => wipe σ2 vs = wipe σ vs ∧ tt σ2 H2 fun b H3 =>
      if b = true then tk σ2 H3 fun y H4 => tv σ2 H4 fun z H5 => ∃ kvs k, y = kV k ∧ H5 D = some (.dK kvs) ∧ kvs.length < sizeLine ∧ Pv (i + 1) (upd H5 D (.dK (putK kvs k z))) else Pv (i + 1) H3) (hd : ∀ H, Pv n H → Qd H) :
    ∃ W : Nat → Nat → Hp → Prop, (∃ m, W 0 m (upd H1 D (.dK []))) ∧ ∀ i m H, W i m H →
      (J.stop i H ∧ Qd H) ∨ (J.go i H ∧ ∃ Nx : Hp → Prop, (∀ H', Nx H' → ∃ m', m' < m ∧ W (i + 1) m' H') ∧ ∀ x H', J.yld i H x H' → g x (wipe σ vs) H' fun σ2 H2 => wipe σ2 vs = wipe σ vs ∧ tt σ2 H2 fun b H3 =>
        if b = true then tk σ2 H3 fun y H4 => tv σ2 H4 fun z H5 => ∃ kvs k, y = kV k ∧ H5 D = some (.dK kvs) ∧ kvs.length < sizeLine ∧ Nx (upd H5 D (.dK (putK kvs k z))) else Nx H3) := by
  refine ⟨fun i m H => m = n - i ∧ i ≤ n ∧ Pv i H, ⟨n, (Nat.sub_zero n).symm, Nat.zero_le _, h0⟩, ?_⟩
  rintro i m H ⟨em, hi, p⟩
  subst em
  have gH := hG i H hi p
  rcases Nat.lt_or_ge i n with lt | ge
  · exact .inr ⟨wk.goes i H lt gH, Pv (i + 1), fun H' p' => ⟨n - (i + 1), by omega, rfl, lt, p'⟩, fun x H' y => turn i x H H' lt p (wk.yields i H x H' lt gH y)⟩
  · obtain rfl : i = n := by omega
    exact .inl ⟨wk.stops H gH, hd H p⟩
theorem cr_sumT {X : Cx} (hc : X.calm = true) : CallR X (.builtin "sum") (fun vs H Q => ∃ (a : Addr) (ns : List Int), vs = [V.ref a] ∧ SqT X.K H a (ns.map V.int) ∧ Q (.int ns.sum) H) := by
  intro pins s σ H vs us Q I r h
  obtain ⟨a, ns, rfl, hs, q⟩ := h
  obtain ⟨its, rv, hl, _⟩ := I.tuple hs
  rw [Vals.ref1 r]
  obtain ⟨xs, e⟩ := rv.ints.allInts.items
  have hn : numsOf (intItems xs).toList = ns := by rw [← e]; exact rv.ints.numsOf
  rw [nums_intItems] at hn
  have hl' : s.heap.IsTuple a (intItems xs) := by rw [← e]; exact hl
  refine PySem.W.ktm_sumG (I.ok.hd hc) hl' fun h' tk t' hk => ?_
  refine ⟨.int ns.sum, H, I.kept hk, ⟨t', ?_⟩, q⟩
  rw [preSum_eq, List.take_of_length_le (by simp), hn]
end Hw

set_option Elab.async false
set_option linter.all false
set_option maxRecDepth 100000
set_option maxHeartbeats 4000000
namespace Hw
open PySem PySem.Spec L2 PyProof.Rows
/-! for i, x in enumerate(t), t a tuple -/
theorem enum_new1 {v : Value} {o : Obj} {G : Heap → Prop} (B : Begins v o G) :
    Meets (Builtin.«enumerate.__new__» ⟨[.type "enumerate", v], []⟩) (fun _ R s => G s.heap ∧
      R (.ok (.ret (.ref (s.heap.push o).objs.size))) { s with heap := (s.heap.push o).push { cls := .type "enumerate", data := .fields #[.none, .bool false, .ref s.heap.objs.size, rawInt 0, .none, .none] } }) :=
  .of_wp fun prog w A R s h => by
    obtain ⟨hp, g, d, tk, os⟩ := s
    obtain ⟨h1, h⟩ := h
    have hsub := sub_enumerate
    have go : ∀ {A' : Around} {E : Value → Shared → Prop} {Q : Value → Shared → Prop}, Q (.ref hp.objs.size) ⟨hp.push o, g, d, tk, os⟩ → wpAny (model prog w) A' (pyIter v) Q E ⟨hp, g, d, tk, os⟩ :=
      fun q => B.iter prog w _ _ ⟨hp, g, d, tk, os⟩ _ h1 q
    wp_walk
    refine wpAny_stack_any fun st => wpAny_pure ?_
    split
    · rename_i c _ _ _ _ _
      cases (c == Value.type "enumerate")
      · wp_walk using go
        exact ⟨_, rfl, h⟩
      · wp_walk using go
        exact ⟨_, rfl, h⟩
    · wp_walk using go
      exact ⟨_, rfl, h⟩
theorem enum_call1 {prog : Program} {w : World} {A : Around} {E : Value → Shared → Prop} {s : Shared} {v : Value} {o : Obj} {G : Heap → Prop} {Q : Value → Shared → Prop} (B : Begins v o G) (h1 : G s.heap)
    (h : ∀ h', IsEnum h' (s.heap.objs.size + 1) s.heap.objs.size 0 .none → h'.get? s.heap.objs.size = some o → (∀ b o, s.heap.get? b = some o → h'.get? b = some o) → Q (.ref (s.heap.objs.size + 1)) { s with heap := h' }) :
    wpAny (model prog w) A (call (.type "enumerate") [v]) Q E s := by
  refine callType_new F.called_enumerate (by decide) (F.typeCall_enumerate_1 _) (F.newCall_enumerate_1 _) (fun obj => F.args_object_init_2 obj _) F.entry_enumerate_new (enum_new1 B) ⟨h1, ?_⟩
  have hz : (s.heap.push o).objs.size = s.heap.objs.size + 1 := Heap.size_push ..
  have he : ((s.heap.push o).push { cls := .type "enumerate", data := .fields #[.none, .bool false, .ref s.heap.objs.size, rawInt 0, .none, .none] }).get? (s.heap.push o).objs.size = some { cls := .type "enumerate", data := .fields #[.none, .bool false, .ref s.heap.objs.size, rawInt 0, .none, .none] } := Heap.get?_push_size _ rfl
  show _ ∧ _
  rw [hz] at he ⊢
  exact ⟨⟨_, he, rfl⟩, h _ he (Heap.get?_push_of_some _ (Heap.get?_push_size _ B.free)) fun b o x => Heap.get?_push_of_some _ (Heap.get?_push_of_some _ x)⟩
/-- the tuple at a as it stands at each turn, each item in a new pair -/
def IteT (K : PySem.W.Frag) (a : Addr) : It :=
  ⟨fun i H => ∃ (xs : List V) (x : V), SqT K H a xs ∧ xs[i]? = some x, fun i H v H' => ∃ T x, v = .ref T ∧ H T = none ∧ H' = upd H T (.tup [.int (i : Nat), x]) ∧ ∀ xs, SqT K H a xs → xs[i]? = some x, fun i H => ∃ xs : List V, SqT K H a xs ∧ xs.length = i⟩
theorem iter_at {h h' : Heap} {it a : Addr} {i : Nat} (x : h.IsTupleIter it a i) (k : ∀ o, h.get? it = some o → h'.get? it = some o) : h'.IsTupleIter it a i := by
  obtain ⟨o, e, r⟩ := x
  exact ⟨o, k o e, r⟩
theorem turn_enumT {P : Program} {w : World} {K : PySem.W.Frag} {elts : List Expr} {kk : Nat} {tpos : Pos} (a e it : Addr) (hae : a ≠ e) (hai : a ≠ it) :
    Turn P w K (.Tuple elts kk tpos) (IteT K a) [e, it] e (fun i h => (∃ old, IsEnum h e it ((i : Nat) : Int) old) ∧ h.IsTupleIter it a i ∧ e ≠ it) where
  mem := List.mem_cons_self
  obj := fun i h st b hb => by
    obtain ⟨⟨old, he⟩, ⟨o, ho, hc, hd⟩, _⟩ := st
    rcases List.mem_cons.mp hb with rfl | hb
    · exact ⟨_, he, fun v q => nomatch q⟩
    · rw [List.mem_singleton.mp hb]
      exact ⟨o, ho, fun v q => by rw [hd] at q; cases q⟩
  keep := fun i h h' st k => ⟨st.1.imp fun old he => k e List.mem_cons_self _ he, iter_at st.2.1 fun o q => k it (List.mem_cons_of_mem _ List.mem_cons_self) o q, st.2.2⟩
  item := by
    rintro X rfl rfl rfl hc i pins s σ H E I hf ⟨⟨old, he⟩, hit, hne⟩ ⟨xs, x, hq, hx⟩
    obtain ⟨its, rv, p, hz⟩ := I.tuple hq
    obtain ⟨u, hu, ru⟩ := rv.get hx
    have hlt : i < its.toArray.size := by simpa using (List.getElem?_eq_some_iff.mp hu).1
    have hel : e < s.heap.objs.size := Heap.lt_size he
    have hil : it < s.heap.objs.size := by obtain ⟨_, q, _⟩ := hit; exact Heap.lt_size q
    refine wpAny_pyNext_enum_itemD (Draws.tuple (A := X.A.in1) (I.ok.hd hc) it a hai its.toArray) he ⟨hit, p⟩ hlt hne (fun z => by
      rcases List.mem_cons.mp z with z | z
      · exact hne z
      · exact hae (List.mem_singleton.mp z).symm) fun y h' tk hy ho hst' hT hsz hk => ?_
    have ey : y = u := by
      have hu' : its.toArray[i]? = some u := by simpa using hu
      have hy : its.toArray[i]? = some y := hy
      rw [hu'] at hy
      exact (Option.some.inj hy).symm
    subst ey
    refine ⟨_, rfl, wpAny_letOwnedTupleGo_enum (s := { s with heap := h', toks := tk + 1 }) ho fun h'' he' sb => ?_⟩
    have hT2 : h''.get? s.heap.objs.size = some { cls := .type "tuple", data := .seq #[.int i tk, y] } := (sb.2 _ (Nat.ne_of_gt hel)).trans hT
    have I1 : Inv X pins σ (upd H s.heap.objs.size (.tup [.int (i : Nat), x])) { s with heap := h'', toks := tk + 1 } :=
      I.turnedNew (t' := tk + 1) (ch := [e, it]) (fun b ob hb q => (sb.2 b (fun z => hb (by simp [z]))).trans (hk b ob (fun z => hb (by simp [z])) (fun z => hb (by simp [z])) q)) hf (Nat.le_refl _)
        ⟨by show 2 ≤ sizeLine; decide, [.int i tk, y], .cons ⟨_, rfl⟩ (.cons ru .nil), ⟨_, hT2, rfl, _, rfl⟩⟩
    refine ⟨.ref s.heap.objs.size, _, I1, rfl, ⟨_, x, rfl, I.hok.fresh (Nat.le_refl _), rfl, fun ys hy => by rw [I.tuple_inj hy hq]; exact hx⟩, ⟨⟨y, ?_⟩, iter_at hst'.1 fun o q => (sb.2 it (Ne.symm hne)).trans q, hne⟩, fun b hb => ?_⟩
    · rw [show ((i + 1 : Nat) : Int) = (i : Int) + 1 from by omega]
      exact he'
    · have hb' : b < s.heap.objs.size := by
        rcases List.mem_cons.mp hb with rfl | hb2
        · exact hel
        · rw [List.mem_singleton.mp hb2]; exact hil
      rw [upd_ne (Nat.ne_of_lt hb')]
      exact (hf b hb).1
  done := by
    rintro X rfl rfl rfl hc i pins s σ H E I hf ⟨⟨old, he⟩, hit, hne⟩ ⟨xs, hq, hx⟩
    obtain ⟨its, rv, p, hz⟩ := I.tuple hq
    obtain ⟨f0, f1, f2, f3, f4, f5⟩ := hf it (List.mem_cons_of_mem _ List.mem_cons_self)
    have hl := rv.length
    have hi : i = its.toArray.size := by rw [← hx, hl]; simp
    subst hi
    exact wpAny_pyNext_enum_endD (Draws.tuple (prog := X.prog) (w := X.w) (A := X.A.in1) (I.ok.hd hc) it a hai its.toArray) he ⟨hit, p⟩ fun h' eb => ⟨rfl, I.turned (t' := s.toks) (fun b o hb q => eb b o hb q) f0 f1 f3 f4 f5⟩
  self := fun A i s Q E st h => st.1.elim fun _ he => wpAny_pyIter_enum he h
def iEnumT (K : PySem.W.Frag) (ta : TA) : TI := fun σ H R => ta σ H fun vs H1 => ∃ a xs, vs = [.ref a] ∧ SqT K H1 a xs ∧ R (IteT K a) H1
theorem pi_enumT {X : Cx} {e : Expr} {ta : TA} {p pos tpos : Pos} {elts : List Expr} {kk : Nat} (hg : Gl X "enumerate") (hm : X.mg "enumerate" = none) (ha : PA X [e] ta) (hs : starEach [e] X.env = [(false, eval e X.env)] := by rfl) :
    PI X (.Tuple elts kk tpos) (.Call (.Name "enumerate" p) [e] [] pos) (iEnumT X.K ta) := by
  refine ⟨fun pins s σ H R I h => Call_ (ld_blt I hg hm boot_enumerate (PyProof.Rows.callWith_type1 (thn (ha.run pos pins s σ H _ I h) fun us s1 ⟨vs, H1, I1, r1, q1⟩ => ?_) hs rfl))⟩
  obtain ⟨a, xs, rfl, hq, q⟩ := q1
  rw [Vals.ref1 r1]
  obtain ⟨its, rv, p', hz⟩ := I1.tuple hq
  have hal : a < s1.heap.objs.size := by obtain ⟨_, e, _⟩ := p'; exact Heap.lt_size e
  refine enum_call1 (begins_tuple a its.toArray) p' fun h' he hit hk => wpAny_pyIter_enum he ?_
  have I2 : Inv X pins σ H1 { s1 with heap := h' } := I1.kept (t' := s1.toks) hk
  refine ⟨s1.heap.objs.size + 1, [s1.heap.objs.size + 1, s1.heap.objs.size], _, _, H1, rfl, I2, turn_enumT a _ _ (Nat.ne_of_lt (Nat.lt_succ_of_lt hal)) (Nat.ne_of_lt hal), ⟨⟨.none, he⟩, ⟨_, hit, rfl, rfl⟩, Nat.succ_ne_self _⟩, fun b hb => ?_, q⟩
  have hle : s1.heap.objs.size ≤ b := by
    rcases List.mem_cons.mp hb with rfl | hb
    · exact Nat.le_succ _
    · rw [List.mem_singleton.mp hb]; exact Nat.le_refl _
  exact I1.fpOk hle (I1.hok.fresh hle)
theorem walk_enumT {K : PySem.W.Frag} {a : Addr} {xs : List V} : Walk (IteT K a) xs.length (fun H => SqT K H a xs) (YPair (fun i => some (.int (i : Nat))) (fun i => xs[i]?)) := by
  refine ⟨fun i H hi q => ⟨xs, xs[i], q, by simp [hi]⟩, fun H q => ⟨xs, q, rfl⟩, fun i H v H' hi q y => ?_⟩
  obtain ⟨T, x, h1, h2, h3, h4⟩ := y
  exact ⟨T, _, x, h1, h2, h3, rfl, h4 xs q⟩
end Hw

set_option Elab.async false
set_option linter.all false
set_option maxRecDepth 100000
set_option maxHeartbeats 4000000
namespace Hw
open PySem L2 PyProof.Rows
section
variable {P : Program} {w : World} {K : PySem.W.Frag} {mg : Str → Option Value} {base : Heap}
theorem rs_no {t : TT} {A u : TS} {D : Ends} {σ : L2.St} {H : Hp} (h : t σ H fun b H1 => if b = true then A { D with nx := u D } σ H1 else u D σ H1) : tSeq (tIfS t A tNext) u D σ H := h
theorem rs_listR {K : PySem.W.Frag} {te : TE} {g : TG} {tb u : TS} {D : Ends} {σ : L2.St} {H : Hp} (P0 : Addr → List V → Hp → Prop) (Pv : Addr → List V → Hp → Nat → L2.St → Hp → Prop) (hw : ∀ Q : VK, (∀ l xs H1, P0 l xs H1 → Q (.ref l) H1) → te σ H Q) (h0 : ∀ l xs H1, P0 l xs H1 → Pv l xs H1 0 σ H1)
    (hl : ∀ l xs H1 i σ H, Pv l xs H1 i σ H → SqL K H l xs) (hs : ∀ l xs H1 i x σ H, P0 l xs H1 → xs[i]? = some x → Pv l xs H1 i σ H → g x σ H fun σ2 H2 => tb { D with nx := Pv l xs H1 (i + 1), ct := Pv l xs H1 (i + 1), bk := u D } σ2 H2)
    (hd : ∀ l xs H1 σ H, P0 l xs H1 → Pv l xs H1 xs.length σ H → u D σ H) : tSeq (tFor (iList K te) g tb) u D σ H :=
  hw _ fun l xs H1 p => ⟨l, rfl, ⟨_, hl _ _ _ _ _ _ (h0 l xs H1 p)⟩, for_list (D := { D with nx := u D }) (xs := xs) (Pv l xs H1) (h0 l xs H1 p) (fun i σ H _ q => hl _ _ _ _ _ _ q) (fun i x σ H hx q => hs l xs H1 i x σ H p hx q) (fun σ H q => hd l xs H1 σ H p q)⟩
theorem rs_t {te : TE} {g : TG} {u : TS} {D : Ends} {σ : L2.St} {H : Hp} (h : te σ H fun x H1 => g x σ H1 (u D)) : tSeq (tAsg te g) u D σ H := h
theorem g2_of {K : PySem.W.Frag} {σ : L2.St} {H : Hp} {i j : Nat} {p : Addr} {x y : V} {R : L2.St → Hp → Prop} (e : SqT K H p [x, y]) (h : R ((σ.set i (some x)).set j (some y)) H) : gTup K 2 (gCons (gName i) (gCons (gName j) gNil)) (.ref p) σ H R :=
  ⟨p, [x, y], rfl, e, rfl, _, [y], rfl, _, [], rfl, rfl, h⟩
end
end Hw

set_option Elab.async false
set_option linter.all false
set_option maxRecDepth 100000
set_option maxHeartbeats 4000000
namespace HN
open PySem PySem.Spec PyProof.Rows PySem.SeqAt
section
variable {prog : Program} {w : World} {A : Around} {E : Value → Shared → Prop} {s : Shared} {K : PySem.W.Frag} {x C f : Addr} {ox : Obj} {od : Option Obj} {b tb : Value}
/-- how an answer is turned about -/
def NotBack (Q : Value → Shared → Prop) (v : Value) (s' : Shared) : Prop := ∃ r, v = .bool r ∧ Q (.bool (!r)) s'
theorem ne_entry {Q : Fin → Shared → Prop} (hu : A.units < cLine) (X : K.In s.heap) (I : PySem.W.InstAt s.heap x ox C od) (hs : PySem.W.findIn K (.ref C) "__eq__" = some (some (.ref f))) (hf : PySem.W.isFn K (.ref f) = true)
    (h : wpAny (model prog w) A (call (.ref f) [.ref x, b]) (NotBack fun v s' => Q (.done (.ret v)) s') E s) : wpAny (model prog w) A (Builtin.«object.__ne__» ⟨[.ref x, b], []⟩) Q E s := by
  have one : wpAny (model prog w) A (callSpecialIfBound? (.ref x) "__eq__" [b]) (fun r s' => ∃ q, r = some (.bool q) ∧ Q (.done (.ret (.bool (!q)))) s') E s :=
    PySem.W.ifBound_K X I hs hf (wpAny_mono h (fun v s' z => by
      obtain ⟨r, e, q⟩ := z
      exact ⟨r, by rw [e], q⟩) fun _ _ e => e)
  unfold Builtin.«object.__ne__»
  repeat (first
    | with_reducible refine wpAny_cRoomFor hu ?_
    | (refine wpAny_bind (m := callSpecialIfBound? (.ref x) (Str.ofString "__eq__") [b]) (wpAny_mono one (fun r s' z => by
        obtain ⟨q, e, hq⟩ := z
        subst e
        repeat (first | exact hq | exact wpAny_pure hq | exact wpAny_truthy_bool hq | (refine wpAny_bind (m := truthy (.bool _)) (wpAny_truthy_bool ?_)) | wp_step)) fun _ _ e => e))
    | wp_step)
theorem ifBound_objNe {M : Model} {args : List Value} {Q : Option Value → Shared → Prop} (X : K.In s.heap) (I : PySem.W.InstAt s.heap x ox C od) (hs : PySem.W.findIn K (.ref C) "__ne__" = some (some (.builtin "object.__ne__")))
    (h : wpAny M A (call (.builtin "object.__ne__") (.ref x :: args)) (fun v => Q (some v)) E s) : wpAny M A (callSpecialIfBound? (.ref x) "__ne__" args) Q E s := by
  simp only [callSpecialIfBound?, bindSpecialIfBound?]
  refine wpAny_holding (wpAny_bind (wpAny_bind (wpAny_bind (I.type.here ((PySem.W.looks_findIn X hs).here ?_)))))
  refine wpAny_bind (wpAny_askSetting (wpAny_ite ?_))
  have last : wpAny M A (call (.builtin "object.__ne__") ([.ref x] ++ args) >>= fun v => pure (some v)) Q E s := wpAny_bind (wpAny_mono h (fun v s' z => wpAny_pure z) fun _ _ z => z)
  have nb := F.cmp_object.ne.bind
  split
  · exact wpAny_bind (wpAny_of_eq (nb _) (wpAny_pure (by exact last)))
  · exact wpAny_tryCatch (wpAny_bind (wpAny_of_eq (nb _) (wpAny_pure (by exact last))))
theorem rich_ne {Q : Value → Shared → Prop} (hu : A.units + 1 < cLine) (X : K.In s.heap) (I : PySem.W.InstAt s.heap x ox C od) (hb : PySem.W.Looks (model prog w) s.heap (typeOf b) tb) (hn : PySem.W.notFirst K C tb = true)
    (hm : PySem.W.mroIn K C (.type "object") = some true) (hs : PySem.W.findIn K (.ref C) "__eq__" = some (some (.ref f))) (hf : PySem.W.isFn K (.ref f) = true) (hne : PySem.W.findIn K (.ref C) "__ne__" = some (some (.builtin "object.__ne__")))
    (h : wpAny (model prog w) A.in1 (call (.ref f) [.ref x, b]) (NotBack Q) E s) : wpAny (model prog w) A (richCompare .NotEq (.ref x) b) Q E s := by
  have one : wpAny (model prog w) A (tryCompare (.ref x) "__ne__" b) (fun r s' => ∃ v, r = some v ∧ Q v s') E s := by
    unfold tryCompare
    refine wpAny_bind (ifBound_objNe X I hne (wpAny_call (codeAny_call_builtin F.cmp_object.ne.plain F.cmpEntry_ne (PySem.W.check_slot F.cmpKind_ne F.cmpSplit_ne (I.type.andThen (PySem.W.looks_mroIn X hm)) (F.cmpArgs_ne _ _) (ne_entry (A := A.in1) hu X I hs hf (wpAny_mono h (fun v s' z => ?_) fun _ _ e => e))))))
    obtain ⟨r, e, q⟩ := z
    refine ⟨r, e, ?_⟩
    exact wpAny_pure ⟨_, rfl, q⟩
  simp only [richCompare, cmpInfo_NotEq, oneThing_ref]
  refine wpAny_holding (wpAny_bind (wpAny_cRoomFor (Nat.lt_of_succ_lt hu) ?_))
  refine wpAny_bind (I.type.here (wpAny_bind (hb.here ?_)))
  split
  · rename_i q
    have e : PySem.W.subIn K tb (.ref C) = some false := by
      have hn' := hn
      unfold PySem.W.notFirst at hn'
      rcases Bool.or_eq_true_iff.mp hn' with e | e
      · rw [beq_iff_eq.mp e] at q; simp at q
      · exact beq_iff_eq.mp e
    refine wpAny_bind ((PySem.W.looks_subIn X e).here ?_)
    simp only [Bool.false_eq_true, if_false]
    refine wpAny_bind (wpAny_mono one (fun r s' z => ?_) fun _ _ z => z)
    obtain ⟨v, e, hq⟩ := z
    subst e
    exact wpAny_pure hq
  · refine wpAny_bind (wpAny_pure ?_)
    simp only [Bool.false_eq_true, if_false]
    refine wpAny_bind (wpAny_mono one (fun r s' z => ?_) fun _ _ z => z)
    obtain ⟨v, e, hq⟩ := z
    subst e
    exact wpAny_pure hq
end
end HN
namespace Hw
open PySem L2 PyProof.Rows
/-- x == y (or !=) where x has a class of the text with its own == -/
def rEqU (K : PySem.W.Frag) (C : Addr) (sp : Sp) (E : XK) (neg : Bool) : R2 := fun x y H Q => ∃ a dx fs t, x = .ref a ∧ H a = some (.ins C dx fs) ∧ TyX K H y t ∧ PySem.W.notFirst K C t = true ∧ sp [.ref a, y] H (fun v H' => ∃ b, v = .bl b ∧ Q (.bl (b != neg)) H') E
/-- the class's own comparison -/
structure EqM (K : PySem.W.Frag) (C f : Addr) : Prop where
  eq : PySem.W.findIn K (.ref C) "__eq__" = some (some (.ref f))
  fn : PySem.W.isFn K (.ref f) = true
  ne : PySem.W.findIn K (.ref C) "__ne__" = some (some (.builtin "object.__ne__"))
  obj : PySem.W.mroIn K C (.type "object") = some true
section
variable {X : Cx} {n : Nat} {CX : CXT} {C f : Addr} {fd : FuncData} {ps : List Str} {sp : Sp} {E : XK}
theorem own_run (F : FnOk X.prog X.w X.K X.mg X.base CX n f fd ps sp) (hb : Binds X.K fd ps []) (hx : Passes CX X E) {A : Around} (hr : Room n A) (hfr : A.frames = X.A.frames) {pins : List (Addr × Obj)} {σ : L2.St} {H : Hp} {s : Shared} {vs : List V} {us : List Value} (I : Inv X pins σ H s) (r2 : Vals vs us) {R : VK}
    (hsp : sp vs H R E) {QQ : Value → Shared → Prop} (hq : ∀ z u H' s', Inv X pins σ H' s' → RelV z u → R z H' → QQ u s') : wpAny (model X.prog X.w) A (call (.ref f) us) QQ X.xe s := by
  have e0 : Env0 X.prog X.w X.K X.mg X.base A X.stack s H := by
    have e := I.env0
    exact ⟨by rw [hfr]; exact e.frames, e.mod, e.bs, e.bsz, e.funs, e.frf, e.hok, e.bare⟩
  have hl := F.len _ _ _ _ hsp
  have hl2 : us.length = vs.length := (Vals.length r2).symm
  refine wpAny_call (codeAny_mono (F.run A X.stack s H ⟨us, []⟩ us vs _ E hr e0 (by
    have := hb s us I.kIn (by simpa [hl2] using hl)
    simpa using this) r2 hsp) fun r s' z => ?_)
  cases r with
  | error e => exact hx pins σ H s e s' I z
  | ok fl =>
    cases fl with
    | ret u =>
      obtain ⟨z, H', I', rz, q⟩ := I.after z
      exact hq z u H' s' I' rz q
    | next => exact False.elim z
    | brk => exact False.elim z
    | cont => exact False.elim z
theorem eqU_run (F : FnOk X.prog X.w X.K X.mg X.base CX n f fd ps sp) (hb : Binds X.K fd ps []) (hx : Passes CX X E) {A : Around} (hr : Room n A) (hfr : A.frames = X.A.frames) {pins : List (Addr × Obj)} {σ : L2.St} {H : Hp} {s : Shared} {a : Addr} {y : V} {v : Value} (I : Inv X pins σ H s) (ry : RelV y v) {R : Bool → Hp → Prop}
    (hsp : sp [.ref a, y] H (fun z H' => ∃ b, z = .bl b ∧ R b H') E) {QQ : Value → Shared → Prop} (hq : ∀ b H' s', Inv X pins σ H' s' → R b H' → QQ (.bool b) s') : wpAny (model X.prog X.w) A (call (.ref f) [.ref a, v]) QQ X.xe s :=
  own_run F hb hx hr hfr I (.cons (show RelV (V.ref a) (Value.ref a) from rfl) (.cons ry .nil)) hsp fun z u H' s' I' rz ⟨b, ez, q⟩ => by
    subst ez
    cases rz
    exact hq b H' s' I' q
/-- len of an object with its own __len__ -/
theorem call_lenU (F : FnOk X.prog X.w X.K X.mg X.base CX n f fd ps sp) (hb : Binds X.K fd ps []) (hx : Passes CX X E) (hs : PySem.W.findIn X.K (.ref C) "__len__" = some (some (.ref f))) (hf : PySem.W.isFn X.K (.ref f) = true) (hr : Room (n + 1) X.A) :
    CallR X (.builtin "len") (fun xs H Q => ∃ a dx fs, xs = [V.ref a] ∧ H a = some (.ins C dx fs) ∧ sp [.ref a] H (fun v H' => ∃ k : Nat, v = .int k ∧ k ≤ 1000000 ∧ Q (.int k) H') E) := by
  intro pins s σ H xs us Q I r h
  obtain ⟨a, dx, fs, rfl, ha, hsp⟩ := h
  obtain ⟨u, rfl, ru⟩ := vals1 r
  cases ru
  obtain ⟨m1, J, _⟩ := ins_get I.hok ha
  obtain ⟨od, J, _⟩ := J.look
  obtain ⟨m, hF⟩ := I.fr
  refine PySem.W.len_K hF I.ok.mod.kin J hs hf ?_
  refine own_run F hb hx hr.in1 rfl I (.cons (show RelV (V.ref a) (Value.ref a) from rfl) .nil) hsp fun z u H' s' I' rz q => ?_
  obtain ⟨k, ez, hk, q⟩ := q
  subst ez
  obtain ⟨t, rfl⟩ := rz
  exact ⟨⟨by omega, by have : (2 : Int) ^ 63 = 9223372036854775808 := by decide
                       omega⟩, .int k, H', I'.tok _, ⟨_, rfl⟩, q⟩
theorem op_eqU (F : FnOk X.prog X.w X.K X.mg X.base CX n f fd ps sp) (hb : Binds X.K fd ps []) (hx : Passes CX X E) (M : EqM X.K C f) (hr : Room n X.A) : OpR X (compareOp .Eq) (rEqU X.K C sp E false) := by
  intro pins s σ H x y v u Q I rx ry hq
  obtain ⟨a, dx, fs, t, rfl, ha, ty, nf, hsp⟩ := hq
  cases rx
  obtain ⟨m1, J, _⟩ := ins_get I.hok ha
  obtain ⟨od, J, _⟩ := J.look
  obtain ⟨m, hF⟩ := I.fr
  obtain ⟨Pk, Z, pk, _⟩ := kit_of I ry ty
  refine PySem.W.cmp_K (op := .Eq) (tb := t) hr.units0 hF I.ok.mod.kin J (Z.ty _ _ I.kIn pk) nf M.eq M.fn ?_
  exact eqU_run F hb hx hr rfl I ry hsp fun b H' s' I' q => ⟨.bl b, H', I', rfl, by simpa using q⟩
theorem op_neU (F : FnOk X.prog X.w X.K X.mg X.base CX n f fd ps sp) (hb : Binds X.K fd ps []) (hx : Passes CX X E) (M : EqM X.K C f) (hr : Room (n + 1) X.A) : OpR X (compareOp .NotEq) (rEqU X.K C sp E true) := by
  intro pins s σ H x y v u Q I rx ry hq
  obtain ⟨a, dx, fs, t, rfl, ha, ty, nf, hsp⟩ := hq
  cases rx
  obtain ⟨m1, J, _⟩ := ins_get I.hok ha
  obtain ⟨od, J, _⟩ := J.look
  obtain ⟨Pk, Z, pk, _⟩ := kit_of I ry ty
  refine HN.rich_ne (tb := t) (by have := hr.units; omega) I.kIn J (Z.ty _ _ I.kIn pk) nf M.obj M.eq M.fn M.ne ?_
  exact eqU_run F hb hx hr.in1 rfl I ry hsp fun b H' s' I' q => ⟨b, rfl, ⟨.bl (!b), H', I', rfl, by cases b <;> simpa using q⟩⟩
end
end Hw

set_option Elab.async false
set_option linter.all false
set_option maxRecDepth 100000
set_option maxHeartbeats 4000000
namespace Hw
open PySem L2 PyProof.Rows
def topS (i : Nat) : Stmt := PySem.Challenge.pw_healedwebs_k40_trees_for_limits.main.body.getD i (.Pass ⟨0, 0, 0, 0⟩)
abbrev sPot : Stmt := topS 20
abbrev sTake : Stmt := topS 21
abbrev sOf : Stmt := topS 22
abbrev sCells : Stmt := topS 24
section
variable {P : Program} {w : World} {K : PySem.W.Frag} {mg : Str → Option Value} {base : Heap}
theorem scPot : FnScope ["script", "place", "cell", "own", "small"] ["script", "place"] (defScope sPot) := ⟨rfl, rfl, rfl, by decide +kernel, rfl, by decide +kernel, by decide +kernel⟩
theorem scTake : FnScope ["pot", "upto", "digit", "prime", "blend"] ["pot", "upto"] (defScope sTake) := ⟨rfl, rfl, rfl, by decide +kernel, rfl, by decide +kernel, by decide +kernel⟩
theorem scOf : FnScope ["pot", "some"] ["pot", "some"] (defScope sOf) := ⟨rfl, rfl, rfl, by decide +kernel, rfl, by decide +kernel, by decide +kernel⟩
theorem scCells : FnScope ["script", "most"] ["script", "most"] (defScope sCells) := ⟨rfl, rfl, rfl, by decide +kernel, rfl, by decide +kernel, by decide +kernel⟩
theorem b01 (b : Prop) [Decidable b] : -(2 ^ 64) < (if b then (1 : Int) else 0) ∧ (if b then (1 : Int) else 0) < 2 ^ 64 := by
  split <;> exact ⟨by decide, by decide⟩
/-- names of the built-ins -/
structure Blt (mg : Str → Option Value) : Prop where
  len : mg "len" = none
  sum : mg "sum" = none
  int : mg "int" = none
  abs : mg "abs" = none
  list : mg "list" = none
  range : mg "range" = none
  max : mg "max" = none
  min : mg "min" = none
theorem ok_pot {f : Addr} {fd : FuncData} {k : Nat} (F : Fun K "_law_pot" "_law_pot" sPot f fd) (B : Blt mg) : FnOk P w K mg base CX0 (k + 1) f fd ["script", "place"] (spPot K) := by
  refine F.ok scPot (fun vs H Q E h => ?_) (fun cdv A outer s H vs Q E hr h => ?_)
  · obtain ⟨a, ns, i, rfl, _⟩ := h
    rfl
  · obtain ⟨a, ns, i, rfl, hS, hlen, h0, h1, q⟩ := h
    refine ⟨_, Evl.pss_cut (ps_set (i := 2) scPot.nd rfl (.inl rfl) (pe_ifExp (pt_cmpR op_lt (pv 1) (pe_callB call_len_seq (by rfl) B.len PySem.boot_len (pa_cons (pv 0) pa_nil)) (nomark _))
        (pe_ix ix_list (pv 0) (pv 1) (fun _ _ => rfl))
        (pe_op op_add (pe_op op_add (pe_op op_mod (pe_callB (cr_sum rfl) (by rfl) B.sum PyProof.Rows.boot_sum (pa_cons (pe_slice sl_list (pv 0) po_none (po_some pe_int)) pa_nil)) pe_int) (pe_op op_mul pe_int (pv 1))) pe_int)))
      (pss_cons (ps_set (i := 3) scPot.nd rfl (.inl rfl) (pe_op op_mul (pe_op op_mod (pe_callTy call_int1 (by rfl) B.int PyProof.Rows.boot_int (pa_cons (pe_callB call_abs (by rfl) B.abs PyProof.Rows.boot_abs (pa_cons (pv 2) pa_nil)) pa_nil))
          (pe_op op_powW (pe_op op_powW pe_int pe_int) pe_int))
          (pe_callTy call_int1 (by rfl) B.int PyProof.Rows.boot_int (pa_cons (pe_cmpR op_ge (pe_callB call_abs (by rfl) B.abs PyProof.Rows.boot_abs (pa_cons (pv 2) pa_nil)) (pe_op op_powW pe_int pe_int) (nomark _)) pa_nil))))
      (pss_cons (ps_set (i := 4) scPot.nd rfl (.inl rfl) (pe_op op_mod (pe_callTy call_int1 (by rfl) B.int PyProof.Rows.boot_int (pa_cons (pv 2) pa_nil)) pe_int))
      (pss_one (ps_ret (pe_lst (pa_cons (pv 3) (pa_cons (pe_op op_mod (pe_callTy call_int1 (by rfl) B.int PyProof.Rows.boot_int (pa_cons
        (pe_op op_add (pe_op op_add (pe_op op_mul (pv 4) pe_int) (pe_op op_mul (pe_op op_mul pe_int (pv 1)) (pv 1))) pe_int) pa_nil)) pe_int) (pa_cons pe_int pa_nil)))))))), ?_⟩
    -- the cell: any int, whatever the way
    refine ⟨fun σ' H' => ∃ c : Int, σ' = [some (.ref a), some (.int i), some (.int c), none, none] ∧ Same H H', ?_, ?_⟩
    · refine ⟨_, rfl, .ref a, rfl, a, ns.map V.int, rfl, .inl hS, _, _, rfl, rfl, _, rfl, ite2 (fun e => ?_) (fun e => ?_)⟩
      · have e' : i < (ns.map V.int).length := of_decide_eq_true e
        obtain ⟨j, rfl⟩ : ∃ j : Nat, i = (j : Int) := ⟨i.toNat, by omega⟩
        have hj : j < ns.length := by rw [List.length_map] at e'; omega
        refine ⟨.ref a, rfl, .int (j : Int), rfl, a, _, _, .int ns[j], rfl, rfl, hS, atI_nat (j := j) ?_, ns[j], rfl, Same.refl H⟩
        rw [List.getElem?_map, List.getElem?_eq_getElem hj]; rfl
      · refine ⟨.ref a, rfl, 1, rfl, a, _, rfl, hS, fun c nc => ?_⟩
        have s1 : Same H (upd H c (.lst (cutV (ns.map V.int) none (some 1)))) := same_upd nc
        have ec : cutV (ns.map V.int) none (some 1) = (ns.take 1).map V.int := by
          unfold cutV
          rw [show HT.sIx (ns.map V.int).length (ns.map V.int).length (some 1) = min 1 (ns.map V.int).length from HT.sIx_nat _ _ 1, HT.sIx_none]
          rw [List.length_map, List.drop_zero, Nat.sub_zero, List.map_take]
          rw [List.take_eq_take_iff, List.length_map]; omega
        refine ⟨c, ns.take 1, rfl, sql_of (by rw [upd_same, ec]), ?_⟩
        refine ⟨_, _, rfl, rfl, (by show (0 : Int) < 1000003; decide), .int i, rfl, _, _, rfl, rfl, .inl ⟨by decide, by decide⟩, _, _, rfl, rfl, _, _, rfl, rfl, _, rfl, s1⟩
    · rintro σ' H1 ⟨c, rfl, s1⟩
      refine ⟨.int c, rfl, c, rfl, .inl ⟨_, rfl, _, _, rfl, rfl, ⟨by decide, by decide +kernel⟩, _, _, rfl, rfl, ⟨by decide, by decide +kernel⟩, _, _, rfl, rfl, (by show (0 : Int) < ((10 : Int) ^ Int.toNat 60) ^ Int.toNat 5; decide +kernel), ?_⟩⟩
      refine ⟨.int c, rfl, c, rfl, _, _, rfl, rfl, ⟨by decide, by decide +kernel⟩, _, _, rfl, rfl, .inr ⟨_, rfl, _, _, rfl, rfl, .inr ?_, ?_⟩⟩
      · exact b01 _
      have own0 : ∀ (x m : Int) (b : Prop) [Decidable b], m ≠ 0 → 0 ≤ x % m * (if b then 1 else 0) := fun x m b _ hm => Int.mul_nonneg (Int.emod_nonneg _ hm) (by split <;> decide)
      refine ⟨.int c, rfl, .inl ⟨_, rfl, _, _, rfl, rfl, (by show (0 : Int) < 2305843009213693951; decide), ?_⟩⟩
      have e0 := Int.emod_nonneg c (show (2305843009213693951 : Int) ≠ 0 by decide)
      have e1 := Int.emod_lt_of_pos c (show (0 : Int) < 2305843009213693951 by decide)
      refine ⟨_, rfl, .int (c % 2305843009213693951), rfl, _, _, rfl, rfl, .inl ⟨by omega, by omega⟩, .int i, rfl, _, _, rfl, rfl, .inl ⟨by decide, by decide⟩, .int i, rfl, _, _, rfl, rfl, .inr ⟨by omega, by omega⟩,
        _, _, rfl, rfl, _, _, rfl, rfl, .inl ⟨_, rfl, _, _, rfl, rfl, (by show (0 : Int) < 2305843009213693921; decide), by show 3 ≤ sizeLine; decide, fun p hp => ?_⟩⟩
      refine q p _ (s1.trans (same_upd hp)) (s1.free hp) ⟨⟨_, _, _, upd_same, own0 _ _ _ (by decide +kernel), Int.emod_nonneg _ (by decide), ?_, by decide, by decide⟩⟩
      exact Int.lt_of_lt_of_le (Int.emod_lt_of_pos _ (by decide)) (by decide)
theorem ok_take {f : Addr} {fd : FuncData} {k : Nat} (F : Fun K "_law_take" "_law_take" sTake f fd) (B : Blt mg) : FnOk P w K mg base CX0 (k + 1) f fd ["pot", "upto"] spTake := by
  refine F.ok scTake (fun vs H Q E h => ?_) (fun cdv A outer s H vs Q E hr h => ?_)
  · obtain ⟨a, u, N, rfl, _⟩ := h
    rfl
  · obtain ⟨a, u, N, rfl, hP, hN, hu0, hu1, q⟩ := h
    refine ⟨_, pss_cons (ps_if (pt_cmpR op_gt (pe_ix ix_list (pv 0) pe_int (fun _ _ => rfl)) pe_int (nomark _))
        (pss_cons (ps_set (i := 2) scTake.nd rfl (.inl rfl) (pe_op op_mod (pe_callTy call_int1 (by rfl) B.int PyProof.Rows.boot_int (pa_cons (pe_ix ix_list (pv 0) pe_int (fun _ _ => rfl)) pa_nil)) (pv 1)))
        (pss_cons (ps_asg (pe_op op_fdiv (pe_ix ix_list (pv 0) pe_int (fun _ _ => rfl)) (pv 1)) (pg_sub (pv 0) pe_int set_list))
        (pss_one (ps_ret (pv 2))))) pss_nil)
      (pss_cons (ps_asg (pe_op op_add (pe_ix ix_list (pv 0) pe_int (fun _ _ => rfl)) pe_int) (pg_sub (pv 0) pe_int set_list))
      (pss_cons (ps_set (i := 3) scTake.nd rfl (.inl rfl) (pe_ix ix_list (pe_lst (pa_cons pe_int (pa_cons pe_int (pa_cons pe_int (pa_cons pe_int (pa_cons pe_int pa_nil))))))
          (pe_op op_mod (pe_callTy call_int1 (by rfl) B.int PyProof.Rows.boot_int (pa_cons (pe_ix ix_list (pv 0) pe_int (fun _ _ => rfl)) pa_nil)) pe_int) (fun _ _ => rfl)))
      (pss_cons (ps_set (i := 4) scTake.nd rfl (.inl rfl) (pe_op op_mod (pe_callTy call_int1 (by rfl) B.int PyProof.Rows.boot_int (pa_cons (pe_op op_powW (pe_callTy call_int1 (by rfl) B.int PyProof.Rows.boot_int (pa_cons
          (pe_op op_add (pe_op op_add (pe_ix ix_list (pv 0) pe_int (fun _ _ => rfl)) (pe_op op_mul (pe_op op_mul pe_int (pe_ix ix_list (pv 0) pe_int (fun _ _ => rfl))) (pe_ix ix_list (pv 0) pe_int (fun _ _ => rfl)))) pe_int) pa_nil)) pe_int) pa_nil)) (pv 3)))
      (pss_cons (ps_set (i := 4) scTake.nd rfl (.inl rfl) (pe_op op_mod (pe_callTy call_int1 (by rfl) B.int PyProof.Rows.boot_int (pa_cons (pe_op op_mul (pv 4) (pe_op op_add (pe_op op_mod (pe_callTy call_int1 (by rfl) B.int PyProof.Rows.boot_int (pa_cons (pv 4) pa_nil)) pe_int)
          (pe_op op_mul pe_int (pe_ix ix_list (pv 0) pe_int (fun _ _ => rfl))))) pa_nil)) pe_int))
      (pss_one (ps_ret (pe_op op_mod (pe_callTy call_int1 (by rfl) B.int PyProof.Rows.boot_int (pa_cons (pe_op op_fdiv (pv 4) pe_int) pa_nil)) (pv 1)))))))), ?_⟩
    obtain ⟨x, y, z, e, hx, hy, hy1, hz, hz1⟩ := hP.ex
    have hS : SqL K H a [.int x, .int y, .int z] := sql_of e
    refine ⟨.ref a, rfl, a, _, 0, .int x, rfl, rfl, hS, rfl, _, _, rfl, rfl, _, rfl, ite2 (fun c => ?_) (fun c => ?_)⟩
    · have c' : 0 < x := of_decide_eq_true c
      refine ⟨.ref a, rfl, a, _, 0, .int x, rfl, rfl, hS, rfl, .inl ⟨x, rfl, .int u, rfl, _, _, rfl, rfl, hu0, ?_⟩⟩
      refine ⟨.ref a, rfl, a, _, 0, .int x, rfl, rfl, hS, rfl, .int u, rfl, _, _, rfl, rfl, ⟨hu0, by omega⟩, .ref a, rfl, a, _, 0, 0, rfl, rfl, e, rfl, ?_⟩
      refine ⟨.int (x % u), rfl, ?_⟩
      exact q _ _ (Int.emod_nonneg _ (by omega)) (Int.emod_lt_of_pos _ hu0) ((SameX.refl a H).put) ⟨⟨_, y, z, upd_same, Int.ediv_nonneg hx (by omega), hy, hy1, hz, by omega⟩⟩
    · refine ⟨.ref a, rfl, a, _, 2, .int z, rfl, rfl, hS, rfl, _, _, rfl, rfl, .ref a, rfl, a, _, 2, 2, rfl, rfl, e, rfl, ?_⟩
      have e2 : upd H a (.lst ([V.int x, .int y, .int z].set 2 (.int (z + 1)))) a = some (.lst [.int x, .int y, .int (z + 1)]) := upd_same
      generalize hH2 : upd H a (.lst ([V.int x, .int y, .int z].set 2 (.int (z + 1)))) = H2 at e2 ⊢
      have s2 : SameX a H H2 := by rw [← hH2]; exact (SameX.refl a H).put
      refine ⟨by show 5 ≤ sizeLine; decide, fun p hp => ?_⟩
      have s3 : Same H2 (upd H2 p (.lst [.int 2147483647, .int 2147483629, .int 2147483587, .int 2147483579, .int 2147483563])) := same_upd hp
      have hp1 : (upd H2 p (.lst [.int 2147483647, .int 2147483629, .int 2147483587, .int 2147483579, .int 2147483563])) p = some (.lst [.int 2147483647, .int 2147483629, .int 2147483587, .int 2147483579, .int 2147483563]) := upd_same
      have e3 := s3 _ _ e2
      have s4 := s2.trans (.of s3)
      generalize (upd H2 p (.lst [.int 2147483647, .int 2147483629, .int 2147483587, .int 2147483579, .int 2147483563])) = H3 at s3 hp1 e3 s4 ⊢
      have hS3 : SqL K H3 a [.int x, .int y, .int (z + 1)] := sql_of e3
      refine ⟨.ref a, rfl, a, _, 2, .int (z + 1), rfl, rfl, hS3, rfl, .inl ⟨_, rfl, _, _, rfl, rfl, (by show (0 : Int) < 5; decide), ?_⟩⟩
      have m0 := Int.emod_nonneg (z + 1) (show (5 : Int) ≠ 0 by decide)
      have m1 := Int.emod_lt_of_pos (z + 1) (show (0 : Int) < 5 by decide)
      obtain ⟨pr, hpr, hp0, hp2⟩ : ∃ pr : Int, atI [V.int 2147483647, .int 2147483629, .int 2147483587, .int 2147483579, .int 2147483563] ((z + 1) % 5) = some (.int pr) ∧ 0 < pr ∧ pr < 2 ^ 31 := by
        generalize (z + 1) % 5 = m at m0 m1
        obtain h | h | h | h | h : m = 0 ∨ m = 1 ∨ m = 2 ∨ m = 3 ∨ m = 4 := by omega
        all_goals (subst h; exact ⟨_, rfl, by decide, by decide⟩)
      refine ⟨p, _, _, .int pr, rfl, rfl, sql_of hp1, hpr, ?_⟩
      -- blend
      refine ⟨.ref a, rfl, a, _, 1, .int y, rfl, rfl, hS3, rfl, .ref a, rfl, a, _, 2, .int (z + 1), rfl, rfl, hS3, rfl, _, _, rfl, rfl, .inl ⟨by decide, by decide⟩,
        .ref a, rfl, a, _, 2, .int (z + 1), rfl, rfl, hS3, rfl, _, _, rfl, rfl, .inr ⟨by omega, by omega⟩, _, _, rfl, rfl, _, _, rfl, rfl, .inl ⟨_, rfl, _, _, rfl, rfl, ⟨by decide, ?_⟩, .inl ⟨_, rfl, .int pr, rfl, _, _, rfl, rfl, hp0, ?_⟩⟩⟩
      · have w0 : 0 ≤ (z + 1) * (z + 1) := Int.mul_nonneg (by omega) (by omega)
        have w1 : (z + 1) * (z + 1) ≤ 1073741824 * 1073741824 := Int.mul_le_mul (by omega) (by omega) (by omega) (by omega)
        have hb : Builtin.Int.intBits (y + 98279 * (z + 1) * (z + 1) + 445) ≤ 100 := by
          refine bits_nat ?_
          rw [Int.mul_assoc]
          generalize (z + 1) * (z + 1) = ww at w0 w1
          omega
        omega
      generalize ((y + 98279 * (z + 1) * (z + 1) + 445) ^ Int.toNat 3) = big
      have b0 := Int.emod_nonneg big (show pr ≠ 0 by omega)
      have b1 := Int.emod_lt_of_pos big hp0
      refine ⟨.int (big % pr), rfl, .int (big % pr), rfl, .inl ⟨_, rfl, _, _, rfl, rfl, (by show (0 : Int) < 10009; decide), .ref a, rfl, a, _, 2, .int (z + 1), rfl, rfl, hS3, rfl, _, _, rfl, rfl, .inl ⟨by decide, by decide⟩, _, _, rfl, rfl,
        _, _, rfl, rfl, .inl ⟨by omega, by omega⟩, .inl ⟨_, rfl, _, _, rfl, rfl, (by show (0 : Int) < 2305843009213693907; decide), ?_⟩⟩⟩
      refine ⟨_, rfl, _, _, rfl, rfl, ⟨by decide, by decide⟩, .inl ⟨_, rfl, .int u, rfl, _, _, rfl, rfl, hu0, ?_⟩⟩
      exact q _ _ (Int.emod_nonneg _ (by omega)) (Int.emod_lt_of_pos _ hu0) s4 ⟨⟨x, y, z + 1, e3, hx, hy, hy1, by omega, by omega⟩⟩
theorem ok_of {f fT : Addr} {fd fdT : FuncData} {k : Nat} (F : Fun K "_law_of" "_law_of" sOf f fd) (B : Blt mg) (GT : FnOk P w K mg base CX0 k fT fdT ["pot", "upto"] spTake) (gT : mg "_law_take" = some (.ref fT)) (kT : PySem.W.keepIn K (.ref fT) = true) (bT : Binds K fdT ["pot", "upto"] []) :
    FnOk P w K mg base CX0 (k + 1) f fd ["pot", "some"] (spOf K) := by
  refine F.ok scOf (fun vs H Q E h => ?_) (fun cdv A outer s H vs Q E hr h => ?_)
  · obtain ⟨a, b, xs, N, rfl, _⟩ := h
    rfl
  · obtain ⟨a, b, xs, N, rfl, hP, hN, hS, hab, h0, h1, q⟩ := h
    refine ⟨_, pss_one (ps_ret (pe_ix ix_list (pv 1) (pe_call GT hr (by rfl) gT kT bT .nil pass0 (pa_cons (pv 0) (pa_cons (pe_callB call_len_seq (by rfl) B.len PySem.boot_len (pa_cons (pv 1) pa_nil)) pa_nil))) (fun _ _ => rfl))), ?_⟩
    refine ⟨.ref b, rfl, .ref a, rfl, .ref b, rfl, b, xs, rfl, .inl hS, a, (xs.length : Int), N, rfl, hP, hN, by omega, by omega, fun r H' r0 r1 sx hP' => ?_⟩
    have hj : r.toNat < xs.length := by omega
    have hS' : SqL K H' b xs := by
      rcases hS with (h | ⟨o, h⟩) | h
      · exact .inl (.inl (sx _ _ (Ne.symm hab) h))
      · exact .inl (.inr ⟨o, sx _ _ (Ne.symm hab) h⟩)
      · exact .inr h
    refine ⟨b, xs, r, xs[r.toNat], rfl, rfl, hS', ?_, q r.toNat _ H' (List.getElem?_eq_getElem hj) sx hP'⟩
    exact at_of (j := r.toNat) (by omega) (List.getElem?_eq_getElem hj)
theorem ok_cells {f : Addr} {fd : FuncData} {k : Nat} (F : Fun K "_law_cells" "_law_cells" sCells f fd) (B : Blt mg) : FnOk P w K mg base CX0 (k + 1) f fd ["script", "most"] (spCells K) := by
  refine F.ok scCells (fun vs H Q E h => ?_) (fun cdv A outer s H vs Q E hr h => ?_)
  · obtain ⟨a, xs, m, rfl, _⟩ := h
    rfl
  · obtain ⟨a, xs, m, rfl, hS, hl, h0, h1, q⟩ := h
    refine ⟨_, pss_one (ps_ret (pe_listRg rfl (by rfl) B.list (prg_1 (by rfl) B.range (pe_callB (call_max2 rfl) (by rfl) B.max PyProof.Rows.boot_max (pa_cons pe_int (pa_cons
      (pe_callB (call_min2 rfl) (by rfl) B.min PyProof.Rows.boot_min (pa_cons (pv 1) (pa_cons (pe_callB call_len_seq (by rfl) B.len PySem.boot_len (pa_cons (pv 0) pa_nil)) pa_nil))) pa_nil)))))), ?_⟩
    refine ⟨.int m, rfl, .ref a, rfl, a, xs, rfl, .inl hS, _, _, rfl, _, _, rfl, _, rfl, ?_⟩
    have key : ∀ v : Int, 0 < v → v ≤ m → v ≤ 1000 → RgOk 0 v ∧ ∀ p, H p = none → Q (.ref p) (upd H p (.lst (rgV 0 v))) := fun v v0 v1 v2 => ⟨.of_le (by omega) (by omega) (by omega) (by omega), fun p hp => by
      refine q v.toNat p _ (by omega) (by omega) (same_upd hp) hp ?_
      rw [upd_same]
      unfold rgV
      rw [Int.sub_zero]
      refine congrArg (fun l => some (HO.lst l)) (List.map_congr_left fun i _ => ?_)
      rw [Int.zero_add]⟩
    refine key _ ?_ ?_ ?_
    all_goals (repeat' split) <;> omega
end
end Hw

set_option Elab.async false
set_option linter.all false
set_option maxRecDepth 100000
set_option maxHeartbeats 4000000
namespace Hw
open PySem L2 PyProof.Rows
theorem valV_seen {ns : List Str} (w : Str) : valV (ns.map fun z => ((Sum.inr z : Key), V.bl true)) (Sum.inr w) = if w ∈ ns then some (V.bl true) else none := by
  induction ns with
  | nil => exact valV_nil
  | cons z ns ih =>
    rw [List.map_cons]
    by_cases h : z = w
    · subst h
      rw [valV_pos rfl, if_pos List.mem_cons_self]
    · rw [valV_neg (fun e => h (Sum.inr.inj e)), ih]
      by_cases hm : w ∈ ns
      · rw [if_pos hm, if_pos (List.mem_cons_of_mem _ hm)]
      · rw [if_neg hm, if_neg (fun e => by rcases List.mem_cons.mp e with rfl | e; exact h rfl; exact hm e)]
theorem rs_while {c : TT} {tb u : TS} {D : Ends} {σ : L2.St} {H : Hp} (Pv : L2.St → Hp → Prop) (μ : L2.St → Hp → Nat) (h0 : Pv σ H)
    (hs : ∀ σ H, Pv σ H → ∃ b : Bool, (∀ Q : Bool → Hp → Prop, Q b H → c σ H Q) ∧ (b = true → tb { D with nx := fun σ' H' => Pv σ' H' ∧ μ σ' H' < μ σ H, ct := fun σ' H' => Pv σ' H' ∧ μ σ' H' < μ σ H, bk := u D } σ H) ∧ (b = false → u D σ H)) :
    tSeq (tWhile c tb) u D σ H := by
  refine ⟨fun m σ H => m = μ σ H ∧ Pv σ H, ⟨_, rfl, h0⟩, ?_⟩
  rintro m σ H ⟨rfl, p⟩
  obtain ⟨b, hc, h1, h2⟩ := hs σ H p
  refine hc _ ?_
  cases b with
  | true => exact ⟨_, fun σ' H' ⟨p', l⟩ => ⟨_, l, rfl, p'⟩, h1 rfl⟩
  | false => exact h2 rfl
def at7 (σ : L2.St) : Nat := match σ[7]? with
  | some (some (V.int k)) => (400 - k).toNat
  | _ => 0
theorem cut2 (w : Str) : cutS w (some 2) none = SL (w.cps.toList.drop 2) := by
  unfold cutS SL
  rw [show HT.sIx w.length 0 (some 2) = min 2 w.length from HT.sIx_nat w.length 0 2, HT.sIx_none]
  refine congrArg (fun l : List Nat => (⟨l.toArray⟩ : Str)) ?_
  rw [len_cps]
  have e : w.cps.toList.drop (min 2 w.cps.toList.length) = w.cps.toList.drop 2 := by
    by_cases h : 2 ≤ w.cps.toList.length
    · rw [Nat.min_eq_left h]
    · rw [Nat.min_eq_right (by omega), List.drop_of_length_le (Nat.le_refl _), List.drop_of_length_le (by omega)]
  rw [e]
  refine List.take_of_length_le ?_
  rw [List.length_drop]; omega
theorem cand_succ (w : Str) (k : Nat) : (SL [97 + k / 26] ++ SL [97 + k % 26]) ++ cutS (cand w k) (some 2) none = cand w (k + 1) := by
  refine str_ext ?_
  rw [app_cps, app_cps, cut2, cand_drop]; rfl
def wordsD : List V := [.str "places", .str "tie", .str "come", .str "die", .str "ring", .str "all", .str "least"]
theorem words_nm : ∀ v ∈ wordsD, ∃ z, v = V.str z ∧ Nm z := by
  intro v hv
  simp only [wordsD, List.mem_cons, List.not_mem_nil, or_false] at hv
  rcases hv with rfl | rfl | rfl | rfl | rfl | rfl | rfl <;> exact ⟨_, rfl, by decide +kernel⟩
def fewD : List V := [.int 0, .int 1, .int 1, .int 2, .int 7]
theorem few_int : ∀ v ∈ fewD, ∃ x : Nat, v = V.int (x : Int) ∧ x ≤ 7 := by
  intro v hv
  simp only [fewD, List.mem_cons, List.not_mem_nil, or_false] at hv
  rcases hv with rfl | rfl | rfl | rfl | rfl
  · exact ⟨0, rfl, by decide⟩
  · exact ⟨1, rfl, by decide⟩
  · exact ⟨1, rfl, by decide⟩
  · exact ⟨2, rfl, by decide⟩
  · exact ⟨7, rfl, by decide⟩
/-- one of the signs of a text, or of the items of a list -/
def spOfS : Sp := fun vs H Q _ => ∃ (a : Addr) (z : Str) (N : Nat), vs = [.ref a, .str z] ∧ Pot H a N ∧ N < 1000000000 ∧ 0 < z.length ∧ z.length < 1000 ∧ ∀ c H', c ∈ z.cps.toList → SameX a H H' → Pot H' a (N + 1) → Q (.str (SL [c])) H'
def spOf2 (K : PySem.W.Frag) : Sp := fun vs H Q E => spOf K vs H Q E ∨ spOfS vs H Q E
/-- many unlike names -/
def spNames : Sp := fun vs H Q _ => ∃ (a : Addr) (m N : Nat), vs = [.ref a, .int m] ∧ Pot H a N ∧ N + 11 * m < 900000000 ∧ m ≤ 300 ∧
  ∀ p (ns : List Str) H', ns.length = m → ns.Nodup → (∀ z ∈ ns, Nm z) → SameX a H H' → H p = none → H' p = some (.lst (ns.map V.str)) → Pot H' a (N + 11 * m) → Q (.ref p) H'
section
variable {P : Program} {w : World} {K : PySem.W.Frag} {mg : Str → Option Value} {base : Heap}
theorem ok_of2 {f fT : Addr} {fd fdT : FuncData} {k : Nat} (F : Fun K "_law_of" "_law_of" sOf f fd) (B : Blt mg) (GT : FnOk P w K mg base CX0 k fT fdT ["pot", "upto"] spTake) (gT : mg "_law_take" = some (.ref fT)) (kT : PySem.W.keepIn K (.ref fT) = true) (bT : Binds K fdT ["pot", "upto"] []) :
    FnOk P w K mg base CX0 (k + 1) f fd ["pot", "some"] (spOf2 K) := by
  refine F.ok scOf (fun vs H Q E h => ?_) (fun cdv A outer s H vs Q E hr h => ?_)
  · rcases h with h | h
    · obtain ⟨a, b, xs, N, rfl, _⟩ := h
      rfl
    · obtain ⟨a, z, N, rfl, _⟩ := h
      rfl
  · refine ⟨_, pss_one (ps_ret (pe_ix (ix_list.or ix_str) (pv 1) (pe_call GT hr (by rfl) gT kT bT .nil pass0 (pa_cons (pv 0) (pa_cons (pe_callB (call_len_seq.or call_len_str) (by rfl) B.len PySem.boot_len (pa_cons (pv 1) pa_nil)) pa_nil))) (fun _ _ => rfl))), ?_⟩
    rcases h with ⟨a, b, xs, N, rfl, hP, hN, hS, hab, h0, h1, q⟩ | ⟨a, z, N, rfl, hP, hN, h0, h1, q⟩
    · refine ⟨.ref b, rfl, .ref a, rfl, .ref b, rfl, .inl ⟨b, xs, rfl, .inl hS, a, (xs.length : Int), N, rfl, hP, hN, by omega, by omega, fun r H' r0 r1 sx hP' => ?_⟩⟩
      have hj : r.toNat < xs.length := by omega
      have hS' : SqL K H' b xs := by
        rcases hS with (h | ⟨o, h⟩) | h
        · exact .inl (.inl (sx _ _ (Ne.symm hab) h))
        · exact .inl (.inr ⟨o, sx _ _ (Ne.symm hab) h⟩)
        · exact .inr h
      refine .inl ⟨b, xs, r, xs[r.toNat], rfl, rfl, hS', ?_, q r.toNat _ H' (List.getElem?_eq_getElem hj) sx hP'⟩
      exact at_of (j := r.toNat) (by omega) (List.getElem?_eq_getElem hj)
    · refine ⟨.str z, rfl, .ref a, rfl, .str z, rfl, .inr ⟨z, rfl, Nat.le_of_lt (small1000 (by omega)), a, (z.length : Int), N, rfl, hP, hN, by omega, by omega, fun r H' r0 r1 sx hP' => ?_⟩⟩
      have hj : r.toNat < z.cps.toList.length := by rw [← len_cps]; omega
      refine .inr ⟨z, r, z.cps.toList[r.toNat], rfl, rfl, Nat.le_of_lt (small1000 (by omega)), ?_, q _ H' (List.getElem_mem hj) sx hP'⟩
      have hh := atI_nat (List.getElem?_eq_getElem hj)
      rw [Int.toNat_of_nonneg r0] at hh
      exact hh
theorem lc_range {g : TG} {tt : TT} {te : TE} {vs : List Nat} {σ : L2.St} {H1 : Hp} {D : Addr} {Qd : Hp → Prop} (n : Nat) (Pv : Nat → Hp → Prop) (h0 : Pv 0 (upd H1 D (.lst [])))
    (hs : ∀ i H, i < n → Pv i H → g (.int (0 + (i : Int))) (wipe σ vs) H fun σ2 H2 => wipe σ2 vs = wipe σ vs ∧ tt σ2 H2 fun b H3 => if b = true then te σ2 H3 fun y H4 => ∃ acc, H4 D = some (.lst acc) ∧ acc.length < sizeLine ∧ Pv (i + 1) (upd H4 D (.lst (acc ++ [y]))) else Pv (i + 1) H3)
    (hd : ∀ H, Pv n H → Qd H) : ∃ W : Nat → Nat → Hp → Prop, (∃ m, W 0 m (upd H1 D (.lst []))) ∧ ∀ i m H, W i m H →
      ((Itr 0 n).stop i H ∧ Qd H) ∨ ((Itr 0 n).go i H ∧ ∃ Nx : Hp → Prop, (∀ H', Nx H' → ∃ m', m' < m ∧ W (i + 1) m' H') ∧ ∀ x H', (Itr 0 n).yld i H x H' → g x (wipe σ vs) H' fun σ2 H2 => wipe σ2 vs = wipe σ vs ∧ tt σ2 H2 fun b H3 =>
        if b = true then te σ2 H3 fun y H4 => ∃ acc, H4 D = some (.lst acc) ∧ acc.length < sizeLine ∧ Nx (upd H4 D (.lst (acc ++ [y]))) else Nx H3) :=
  lc_it (walk_range (lo := 0) (n := n)) Pv h0 (fun _ _ _ _ => trivial) (fun i x H H' hi hp ⟨e1, e2⟩ => by subst e1 e2; exact hs i _ hi hp) hd
def nN : List Str := ["pot", "many", "signs", "found", "known", "lap", "word", "at", "sign"]
end
end Hw

set_option Elab.async false
set_option linter.all false
set_option maxRecDepth 100000
set_option maxHeartbeats 4000000
namespace Hw
open PySem L2 PyProof.Rows
def tieOf (a b : Str) : Tie := (if strLt b a = true then b else a, if strLt a b = true then b else a)
def spTie : Sp := fun vs H Q _ => ∃ a b : Str, vs = [.str a, .str b] ∧ ∀ p, H p = none → Q (.ref p) (upd H p (.tup [.str (tieOf a b).1, .str (tieOf a b).2]))
section
variable {P : Program} {w : World} {K : PySem.W.Frag} {mg : Str → Option Value} {base : Heap}
def encT (ts : List Tie) : List (List Key × V) := ts.map fun t => (([Sum.inr t.1, Sum.inr t.2] : List Key), V.bl true)
theorem encT_any (ts : List Tie) (t : Tie) : ((encT ts).any fun kv => decide (kv.1 = ([Sum.inr t.1, Sum.inr t.2] : List Key))) = decide (t ∈ ts) := by
  rw [encT, List.any_map, Bool.eq_iff_iff, List.any_eq_true, decide_eq_true_iff]
  constructor
  · rintro ⟨u, hu, e⟩
    have e' := of_decide_eq_true e
    injection e' with e1 e2
    injection e2 with e2 _
    injection e1 with e1
    injection e2 with e2
    exact (show u = t from Prod.ext e1 e2) ▸ hu
  · intro h
    exact ⟨t, h, decide_eq_true rfl⟩
theorem putT_tie (ts : List Tie) (t : Tie) : putK (encT ts) ([Sum.inr t.1, Sum.inr t.2] : List Key) (V.bl true) = encT (if t ∈ ts then ts else ts ++ [t]) := by
  unfold putK
  rw [encT_any]
  by_cases h : t ∈ ts
  · rw [if_pos (decide_eq_true h), if_pos h]
    unfold encT
    rw [List.map_map]
    refine List.map_congr_left fun u _ => ?_
    show (if _ then _ else _) = _
    split <;> rfl
  · rw [if_neg (by simpa using h), if_neg h]
    unfold encT
    rw [List.map_append]; rfl
theorem tieOf_lt {u v : Str} (h : u ≠ v) : strLt (tieOf u v).1 (tieOf u v).2 = true ∧ ((tieOf u v).1 = u ∨ (tieOf u v).1 = v) ∧ ((tieOf u v).2 = u ∨ (tieOf u v).2 = v) := by
  unfold tieOf
  cases e1 : strLt v u with
  | true =>
    rw [strLt_as e1]
    exact ⟨by simpa using e1, .inr (by simp), .inl (by simp)⟩
  | false =>
    cases e2 : strLt u v with
    | true => exact ⟨by simpa using e2, .inl (by simp), .inr (by simp)⟩
    | false => exact absurd (strLt_tri e2 e1) h
/-- a drawn web while it is drawn: its places at pl, its ties in the dict at d -/
def WB (a pl d : Addr) (ns : List Str) (H0 : Hp) (N c : Nat) (H : Hp) : Prop := SameX a H0 H ∧ Pot H a N ∧ H pl = some (.lst (ns.map V.str)) ∧ pl ≠ d ∧ pl ≠ a ∧ d ≠ a ∧ ∃ ts : List Tie, H d = some (.dT (encT ts)) ∧ ts.Nodup ∧ (∀ t ∈ ts, t.1 ∈ ns ∧ t.2 ∈ ns ∧ strLt t.1 t.2 = true) ∧ ts.length ≤ c
theorem WB.step {a pl d : Addr} {ns : List Str} {H0 H H' : Hp} {N N' c : Nat} (w : WB a pl d ns H0 N c H) (s : SameX a H H') (p : Pot H' a N') : WB a pl d ns H0 N' c H' := by
  obtain ⟨sx, hp, h1, n1, n2, n3, ts, h2, hr⟩ := w
  exact ⟨sx.trans s, p, s _ _ n2 h1, n1, n2, n3, ts, s _ _ n3 h2, hr⟩
theorem WB.mono {a pl d : Addr} {ns : List Str} {H0 H : Hp} {N N' c c' : Nat} (w : WB a pl d ns H0 N c H) (hN : N ≤ N') (hc : c ≤ c') : WB a pl d ns H0 N' c' H := by
  obtain ⟨sx, hp, h1, n1, n2, n3, ts, h2, h3, h4, h5⟩ := w
  exact ⟨sx, hp.mono hN, h1, n1, n2, n3, ts, h2, h3, h4, Nat.le_trans h5 hc⟩
theorem put_tie {a pl d : Addr} {ns : List Str} {H0 H : Hp} {N c : Nat} {u v : Str} {E : XK} {Q : Hp → Prop} (w : WB a pl d ns H0 N c H) (hd0 : H0 d = none) (hc : c ≤ 1000) (hu : u ∈ ns) (hv : v ∈ ns) (hne : u ≠ v)
    (q : ∀ Hn, WB a pl d ns H0 N (c + 1) Hn → Q Hn) : spTie [.str u, .str v] H (fun k H1 => ∃ d' Hn, V.ref d = .ref d' ∧ DPut H1 d' k (.bl true) Hn ∧ Q Hn) E := by
  obtain ⟨sx, hp, h1, n1, n2, n3, ts, h2, h3, h4, h5⟩ := w
  refine ⟨u, v, rfl, fun p hp0 => ?_⟩
  have npd : d ≠ p := ne_of_none h2 hp0
  have ed : (upd H p (.tup [.str (tieOf u v).1, .str (tieOf u v).2])) d = some (.dT (encT ts)) := by rw [upd_ne npd]; exact h2
  have et : (upd H p (.tup [.str (tieOf u v).1, .str (tieOf u v).2])) p = some (.tup (([Sum.inr (tieOf u v).1, Sum.inr (tieOf u v).2] : List Key).map kV)) := upd_same
  refine ⟨d, _, rfl, DPut.t ed et (by rw [encT, List.length_map]; exact small1000 (by omega)), q _ ?_⟩
  rw [putT_tie]
  obtain ⟨l1, l2, l3⟩ := tieOf_lt hne
  have m1 : (tieOf u v).1 ∈ ns := by rcases l2 with e | e <;> rw [e] <;> assumption
  have m2 : (tieOf u v).2 ∈ ns := by rcases l3 with e | e <;> rw [e] <;> assumption
  refine ⟨fun b o hb e => ?_, ?_, ?_, n1, n2, n3, _, upd_same, ?_, ?_, ?_⟩
  · have e1 : b ≠ d := ne_of_none e hd0
    have e2 := sx _ _ hb e
    rw [upd_ne e1, upd_ne (ne_of_none e2 hp0)]
    exact e2
  · obtain ⟨xx, yy, zz, e, hh⟩ := hp.ex
    exact ⟨xx, yy, zz, by rw [upd_ne (Ne.symm n3), upd_ne (ne_of_none e hp0)]; exact e, hh⟩
  · rw [upd_ne n1, upd_ne (ne_of_none h1 hp0)]; exact h1
  · by_cases hm : tieOf u v ∈ ts
    · rw [if_pos hm]; exact h3
    · rw [if_neg hm, List.nodup_append]
      exact ⟨h3, by simp, fun x hx y hy e => hm (by rw [List.mem_singleton.mp hy] at e; exact e ▸ hx)⟩
  · intro t ht
    by_cases hm : tieOf u v ∈ ts
    · rw [if_pos hm] at ht; exact h4 t ht
    · rw [if_neg hm] at ht
      rcases List.mem_append.mp ht with ht | ht
      · exact h4 t ht
      · rw [List.mem_singleton.mp ht]; exact ⟨m1, m2, l1⟩
  · by_cases hm : tieOf u v ∈ ts
    · rw [if_pos hm]; omega
    · rw [if_neg hm, List.length_append]
      show ts.length + 1 ≤ c + 1
      omega
end
end Hw

set_option Elab.async false
set_option linter.all false
set_option maxRecDepth 100000
set_option maxHeartbeats 4000000
namespace Hw
open PySem L2 PyProof.Rows
/-- an own web: its places ascending, its ties ascending -/
structure OwnW (ns : List Str) (ts : List Tie) : Prop where
  asc : Asc ns
  nm : ∀ z ∈ ns, Nm z
  few : ns.length ≤ 200
  tasc : AscP ts
  tie : ∀ t ∈ ts, t.1 ∈ ns ∧ t.2 ∈ ns ∧ strLt t.1 t.2 = true
  tfew : ts.length ≤ 1000
/-- an own web as it lies: a pair of lists -/
def WebAt (H : Hp) (p : Addr) (ns : List Str) (ts : List Tie) : Prop := ∃ (pl tl : Addr) (qs : List Addr), H p = some (.tup [.ref pl, .ref tl]) ∧ H pl = some (.lst (ns.map V.str)) ∧ H tl = some (.lst (qs.map V.ref)) ∧ Paired (fun q (t : Tie) => H q = some (.tup [.str t.1, .str t.2])) qs ts
def spWeb : Sp := fun vs H Q _ => ∃ (a : Addr) (m N : Nat), vs = [.ref a, .int m] ∧ Pot H a N ∧ N < 400000000 ∧ m ≤ 200 ∧
  ∀ p ns ts H', OwnW ns ts → ns.length ≤ m → ts.length ≤ 900 → WebAt H' p ns ts → SameX a H H' → Pot H' a (N + 4000) → Q (.ref p) H'
def nW : List Str := ["pot", "most", "places", "way", "ties", "at", "lap"]
theorem at_ns {ns : List Str} {r : Int} {j : Nat} (e : r = (j : Int)) (h : j < ns.length) : atI (ns.map V.str) r = some (.str ns[j]) := by
  subst e
  exact atI_nat (by rw [List.getElem?_map, List.getElem?_eq_getElem h]; rfl)
theorem at_last {ns : List Str} (h : 0 < ns.length) : atI (ns.map V.str) (-1) = some (.str (ns[ns.length - 1]'(by omega))) := by
  have hne : ns ≠ [] := fun e => by rw [e] at h; exact absurd h (by decide)
  have e1 : ns.map V.str = ns.dropLast.map V.str ++ [V.str (ns.getLast hne)] := by
    rw [← List.map_singleton, ← List.map_append, List.dropLast_concat_getLast]
  rw [e1, atI_last, List.getLast_eq_getElem]
theorem paired_mono {α β : Type} {F G : α → β → Prop} (h : ∀ x y, F x y → G x y) : ∀ {xs : List α} {ys : List β}, Paired F xs ys → Paired G xs ys
  | _, _, .nil => .nil
  | _, _, .cons a t => .cons (h _ _ a) (paired_mono h t)
theorem keys_ties {H : Hp} : ∀ {ts : List Tie} {bs : List Addr}, IsKeys H (encT ts) bs → Paired (fun q (t : Tie) => H q = some (.tup [.str t.1, .str t.2])) bs ts
  | [], _, h => by
    have h' : IsKeys H [] _ := h
    cases h'; exact .nil
  | t :: ts, _, h => by
    have h' : IsKeys H ((([Sum.inr t.1, Sum.inr t.2] : List Key), V.bl true) :: encT ts) _ := h
    cases h' with
    | cons h1 h2 => exact .cons h1 (keys_ties h2)
theorem nodup_ne {ns : List Str} (h : ns.Nodup) {i j : Nat} (hi : i < ns.length) (hj : j < ns.length) (hij : i < j) : ns[i] ≠ ns[j] := List.pairwise_iff_getElem.mp h i j hi hj hij
theorem if_any {t : TT} {A B : TS} {D : Ends} {σ : L2.St} {H : Hp} (ht : ∀ Q : Bool → Hp → Prop, Q true H → Q false H → t σ H Q) (h1 : A D σ H) (h2 : B D σ H) : tIfS t A B D σ H :=
  ht _ (show if true = true then A D σ H else B D σ H by rw [if_pos rfl]; exact h1) (show if false = true then A D σ H else B D σ H by rw [if_neg Bool.false_ne_true]; exact h2)
theorem rs_rng {wi : TI} {g : TG} {tb u : TS} {D : Ends} {σ : L2.St} {H : Hp} (lo : Int) (n : Nat) (P0 : Hp → Prop) (Pv : Nat → L2.St → Hp → Prop) (hw : ∀ R : It → Hp → Prop, (∀ H1, P0 H1 → R (Itr lo n) H1) → wi σ H R) (h0 : ∀ H1, P0 H1 → Pv 0 σ H1)
    (hs : ∀ i σ H, i < n → Pv i σ H → g (.int (lo + i)) σ H fun σ2 H2 => tb { D with nx := Pv (i + 1), ct := Pv (i + 1), bk := u D } σ2 H2) (hd : ∀ σ H, Pv n σ H → u D σ H) : tSeq (tFor wi g tb) u D σ H :=
  hw _ fun H1 p => for_range (D := { D with nx := u D }) Pv (h0 H1 p) hs hd
theorem rs_if_put {t : TT} {A B u : TS} {D : Ends} {σ : L2.St} {H : Hp} (P1 : Bool → Hp → Prop) (P2 : Hp → Prop) (ht : ∀ Q : Bool → Hp → Prop, (∀ b H', P1 b H' → Q b H') → t σ H Q) (h3 : ∀ H', P2 H' → u D σ H')
    (h1 : ∀ (D' : Ends) H', (∀ H4, P2 H4 → D'.nx σ H4) → P1 true H' → A D' σ H') (h2 : ∀ (D' : Ends) H', (∀ H4, P2 H4 → D'.nx σ H4) → P1 false H' → B D' σ H') : tSeq (tIfS t A B) u D σ H :=
  ht _ fun b H' p => by
    show if b = true then A { D with nx := u D } σ H' else B { D with nx := u D } σ H'
    cases b with
    | true => rw [if_pos rfl]; exact h1 _ H' h3 p
    | false => rw [if_neg Bool.false_ne_true]; exact h2 _ H' h3 p
def lapsD : List V := [.int 0, .int 1, .int 1, .int 2]
theorem laps_int : ∀ v ∈ lapsD, ∃ x : Nat, v = V.int (x : Int) ∧ x ≤ 2 := by
  intro v hv
  simp only [lapsD, List.mem_cons, List.not_mem_nil, or_false] at hv
  rcases hv with rfl | rfl | rfl | rfl
  · exact ⟨0, rfl, by decide⟩
  · exact ⟨1, rfl, by decide⟩
  · exact ⟨1, rfl, by decide⟩
  · exact ⟨2, rfl, by decide⟩
section
variable {P : Program} {w : World} {K : PySem.W.Frag} {mg : Str → Option Value} {base : Heap}
end
end Hw

set_option Elab.async false
set_option linter.all false
set_option maxRecDepth 100000
set_option maxHeartbeats 4000000
namespace Hw
open PySem L2 PyProof.Rows
def sBl : Str := Str.ofString " "
def sNl : Str := Str.ofString "\n"
def placesLine (ns : List Str) : Str := Txt.join sBl (Str.ofString "places" :: ns)
def tieLine (t : Tie) : Str := Txt.join sBl [Str.ofString "tie", t.1, t.2]
def webLines (ns : List Str) (ts : List Tie) : List Str := placesLine ns :: ts.map tieLine
def webText (ns : List Str) (ts : List Tie) : Str := Txt.join sNl (webLines ns ts)
theorem paired_get {α β : Type} {F : α → β → Prop} : ∀ {xs : List α} {ys : List β} {i : Nat} {x : α}, Paired F xs ys → xs[i]? = some x → ∃ y, ys[i]? = some y ∧ F x y
  | _, _, _, _, .nil, e => by simp at e
  | _, _, 0, _, .cons a _, e => by simp at e; subst e; exact ⟨_, rfl, a⟩
  | _, _, i + 1, y, .cons _ t, e => by
    obtain ⟨x, h1, h2⟩ := paired_get (i := i) t (by simpa using e)
    exact ⟨x, by simpa using h1, h2⟩
theorem join_len (y : Str) : ∀ ps : List Str, (Txt.join y ps).length ≤ (ps.map (·.length)).sum + ps.length * y.length
  | [] => by rw [TL.join_eq]; exact Nat.zero_le _
  | [p] => by rw [TL.join_eq]; simp [Str.join]
  | p :: q :: r => by
    have ih := join_len y (q :: r)
    rw [TL.join_eq] at ih ⊢
    have e : Str.join y (p :: q :: r) = p ++ y ++ Str.join y (q :: r) := rfl
    rw [e, app_len, app_len]
    simp only [List.map_cons, List.sum_cons, List.length_cons] at ih ⊢
    have : (r.length + 1 + 1) * y.length = (r.length + 1) * y.length + y.length := by rw [Nat.add_mul (r.length + 1) 1, Nat.one_mul]
    omega
theorem sum_le {ps : List Str} {b : Nat} (h : ∀ p ∈ ps, p.length ≤ b) : (ps.map (·.length)).sum ≤ ps.length * b := by
  induction ps with
  | nil => exact Nat.zero_le _
  | cons p ps ih =>
    have h1 := h p List.mem_cons_self
    have h2 := ih fun q hq => h q (List.mem_cons_of_mem _ hq)
    rw [List.map_cons, List.sum_cons, List.length_cons, Nat.add_mul, Nat.one_mul]
    omega
theorem OwnW.first {ns : List Str} {ts : List Tie} (o : OwnW ns ts) : ((Str.ofString "places" :: ns).map (·.length)).sum + (Str.ofString "places" :: ns).length * sBl.length ≤ 2000 := by
  have h := sum_le (ps := ns) (b := 8) fun p hp => (o.nm p hp).2.1
  have h1 := o.few
  have e1 : (Str.ofString "places").length = 6 := by decide +kernel
  have e2 : sBl.length = 1 := by decide +kernel
  rw [List.map_cons, List.sum_cons, List.length_cons, e1, e2]
  omega
theorem OwnW.tl {ns : List Str} {ts : List Tie} (o : OwnW ns ts) {t : Tie} (ht : t ∈ ts) : (([Str.ofString "tie", t.1, t.2] : List Str).map (·.length)).sum + ([Str.ofString "tie", t.1, t.2] : List Str).length * sBl.length ≤ 22 := by
  obtain ⟨h1, h2, _⟩ := o.tie t ht
  have a := (o.nm _ h1).2.1
  have b := (o.nm _ h2).2.1
  have e1 : (Str.ofString "tie").length = 3 := by decide +kernel
  have e2 : sBl.length = 1 := by decide +kernel
  simp only [List.map_cons, List.map_nil, List.sum_cons, List.sum_nil, List.length_cons, List.length_nil, e1, e2]
  omega
theorem OwnW.lines {ns : List Str} {ts : List Tie} (o : OwnW ns ts) : ((webLines ns ts).map (·.length)).sum + (webLines ns ts).length * sNl.length ≤ 16777216 := by
  have h1 : ∀ p ∈ webLines ns ts, p.length ≤ 2000 := by
    intro p hp
    rcases List.mem_cons.mp hp with rfl | hp
    · exact Nat.le_trans (join_len _ _) o.first
    · obtain ⟨t, ht, rfl⟩ := List.mem_map.mp hp
      exact Nat.le_trans (join_len _ _) (Nat.le_trans (o.tl ht) (by decide))
  have h2 := sum_le h1
  have e2 : sNl.length = 1 := by decide +kernel
  have e3 : (webLines ns ts).length ≤ 1001 := by
    show (ts.map tieLine).length + 1 ≤ 1001
    rw [List.length_map]; have := o.tfew; omega
  rw [e2]
  have : (webLines ns ts).length * 2000 ≤ 1001 * 2000 := Nat.mul_le_mul_right _ e3
  omega
def rJn (K : PySem.W.Frag) : V → List V → Hp → VK → Prop := fun x xs H Q => ∃ a p, ∃ ys : List Str, x = .str a ∧ xs = [.ref p] ∧ (SqL K H p (ys.map V.str) ∨ SqT K H p (ys.map V.str)) ∧ (ys.map (·.length)).sum + ys.length * a.length ≤ 16777216 ∧ Q (.str (Txt.join a ys)) H
def spText : Sp := fun vs H Q _ => ∃ p ns ts, vs = [.ref p] ∧ OwnW ns ts ∧ WebAt H p ns ts ∧ ∀ H', Same H H' → Q (.str (webText ns ts)) H'
section
variable {P : Program} {w : World} {K : PySem.W.Frag} {mg : Str → Option Value} {base : Heap}
end
end Hw

set_option Elab.async false
set_option linter.all false
set_option maxRecDepth 100000
set_option maxHeartbeats 4000000
namespace Hw
open PySem L2 PyProof.Rows
/-! the rows of neighbours -/
def nbr (ts : List Tie) (n : Str) : List Str := ts.flatMap fun t => (if t.1 = n then [t.2] else []) ++ (if t.2 = n then [t.1] else [])
theorem nbr_len (ts : List Tie) (n : Str) : (nbr ts n).length ≤ 2 * ts.length := by
  induction ts with
  | nil => exact Nat.zero_le _
  | cons t ts ih =>
    have e : nbr (t :: ts) n = ((if t.1 = n then [t.2] else []) ++ (if t.2 = n then [t.1] else [])) ++ nbr ts n := by simp [nbr]
    rw [e, List.length_append, List.length_append, List.length_cons]
    have h1 : (if t.1 = n then [t.2] else []).length ≤ 1 := by split <;> simp
    have h2 : (if t.2 = n then [t.1] else []).length ≤ 1 := by split <;> simp
    omega
theorem nbr_mem {ns : List Str} {ts : List Tie} (h : ∀ t ∈ ts, t.1 ∈ ns ∧ t.2 ∈ ns ∧ strLt t.1 t.2 = true) {n m : Str} (hm : m ∈ nbr ts n) : m ∈ ns := by
  obtain ⟨t, ht, hm⟩ := List.mem_flatMap.mp hm
  obtain ⟨h1, h2, _⟩ := h t ht
  rcases List.mem_append.mp hm with hm | hm
  · split at hm
    · rw [List.mem_singleton.mp hm]; exact h2
    · cases hm
  · split at hm
    · rw [List.mem_singleton.mp hm]; exact h1
    · cases hm
theorem valV_names {g : Str → V} {ns : List Str} (w : Str) : valV (ns.map fun z => ((Sum.inr z : Key), g z)) (Sum.inr w) = if w ∈ ns then some (g w) else none := by
  induction ns with
  | nil => exact valV_nil
  | cons z ns ih =>
    rw [List.map_cons]
    by_cases h : z = w
    · subst h
      rw [valV_pos rfl, if_pos List.mem_cons_self]
    · rw [valV_neg (fun e => h (Sum.inr.inj e)), ih]
      by_cases hm : w ∈ ns
      · rw [if_pos hm, if_pos (List.mem_cons_of_mem _ hm)]
      · rw [if_neg hm, if_neg (fun e => by rcases List.mem_cons.mp e with rfl | e; exact h rfl; exact hm e)]
/-- a dict at d of lists, one for each name -/
structure NearL (f : Str → Addr) (H : Hp) (d : Addr) (ns : List Str) (L : Str → List Str) : Prop where
  dict : H d = some (.dK (ns.map fun n => ((Sum.inr n : Key), V.ref (f n))))
  lst : ∀ n ∈ ns, H (f n) = some (.lst ((L n).map V.str))
  inj : ∀ m ∈ ns, ∀ n ∈ ns, f m = f n → m = n
theorem NearL.get {f : Str → Addr} {H : Hp} {d : Addr} {ns : List Str} {L : Str → List Str} (w : NearL f H d ns L) {n : Str} (h : n ∈ ns) : DGet H d (.str n) (some (.ref (f n))) := by
  have := DGet.k (k := Sum.inr n) w.dict
  rw [valV_names (g := fun n => V.ref (f n)), if_pos h] at this
  exact this
theorem NearL.keep {f : Str → Addr} {H H' : Hp} {d : Addr} {ns : List Str} {L : Str → List Str} (w : NearL f H d ns L) (s : Same H H') : NearL f H' d ns L :=
  ⟨s _ _ w.dict, fun n hn => s _ _ (w.lst n hn), w.inj⟩
theorem NearL.congr {f : Str → Addr} {H : Hp} {d : Addr} {ns : List Str} {L M : Str → List Str} (w : NearL f H d ns L) (h : ∀ n ∈ ns, L n = M n) : NearL f H d ns M :=
  ⟨w.dict, fun n hn => by rw [← h n hn]; exact w.lst n hn, w.inj⟩
theorem NearL.push {f : Str → Addr} {H : Hp} {d : Addr} {ns : List Str} {L : Str → List Str} (w : NearL f H d ns L) {x y : Str} (hx : x ∈ ns) : NearL f (upd H (f x) (.lst ((L x).map V.str ++ [.str y]))) d ns (fun n => if n = x then L n ++ [y] else L n) := by
  refine ⟨?_, fun n hn => ?_, w.inj⟩
  · rw [upd_ne (ne_of w.dict (w.lst x hx) (fun z => nomatch z))]; exact w.dict
  · by_cases h : n = x
    · subst h
      rw [upd_same, if_pos rfl, List.map_append]; rfl
    · rw [upd_ne (fun e => h (w.inj n hn x hx e)), if_neg h]; exact w.lst n hn
theorem nbr_snoc (ts : List Tie) (t : Tie) (n : Str) : nbr (ts ++ [t]) n = nbr ts n ++ ((if t.1 = n then [t.2] else []) ++ (if t.2 = n then [t.1] else [])) := by simp [nbr]
theorem nbr_push {ts : List Tie} {t : Tie} (h : t.1 ≠ t.2) (n : Str) : (if n = t.2 then (if n = t.1 then nbr ts n ++ [t.2] else nbr ts n) ++ [t.1] else (if n = t.1 then nbr ts n ++ [t.2] else nbr ts n)) = nbr (ts ++ [t]) n := by
  rw [nbr_snoc]
  by_cases h1 : n = t.1
  · have h2 : n ≠ t.2 := fun e => h (h1.symm.trans e)
    rw [if_neg h2, if_pos h1, if_pos h1.symm, if_neg (Ne.symm h2)]; simp
  · by_cases h2 : n = t.2
    · rw [if_pos h2, if_neg h1, if_neg (Ne.symm h1), if_pos h2.symm]; simp
    · rw [if_neg h2, if_neg h1, if_neg (Ne.symm h1), if_neg (Ne.symm h2)]; simp
theorem mergeK_new : ∀ {more kvs : List (Key × V)}, ((kvs ++ more).map (·.1)).Nodup → mergeK kvs more = kvs ++ more
  | [], kvs, _ => by simp [mergeK]
  | p :: more, kvs, h => by
    have hn : valV kvs p.1 = none := by
      unfold valV
      rw [List.find?_eq_none.mpr]
      · rfl
      · intro q hq hc
        have e := of_decide_eq_true hc
        rw [List.map_append, List.nodup_append] at h
        exact h.2.2 q.1 (List.mem_map.mpr ⟨q, hq, rfl⟩) p.1 (List.mem_map.mpr ⟨p, List.mem_cons_self, rfl⟩) e
    have ih := mergeK_new (more := more) (kvs := kvs ++ [p]) (by rw [List.append_assoc]; exact h)
    show mergeK (putK kvs p.1 p.2) more = _
    rw [putK_new _ hn]
    exact ih.trans (by simp)
end Hw

set_option Elab.async false
set_option linter.all false
set_option maxRecDepth 100000
set_option maxHeartbeats 4000000
namespace Hw
open PySem L2 PyProof.Rows
abbrev TieL (H : Hp) (q : Addr) (t : Tie) : Prop := H q = some (.tup [.str t.1, .str t.2])
def spNear : Sp := fun vs H Q _ => ∃ (p tl : Addr) (ns : List Str) (ts : List Tie) (qs : List Addr), vs = [.ref p, .ref tl] ∧ OwnW ns ts ∧ H p = some (.lst (ns.map V.str)) ∧ H tl = some (.lst (qs.map V.ref)) ∧ Paired (TieL H) qs ts ∧
  ∀ d f H', Same H H' → NearL f H' d ns (nbr ts) → H d = none → (∀ n ∈ ns, H (f n) = none) → Q (.ref d) H'
theorem nodup_take {ns : List Str} (h : ns.Nodup) {i : Nat} {x : Str} (hx : ns[i]? = some x) : x ∉ ns.take i := by
  intro hm
  obtain ⟨j, hj, e⟩ := List.mem_iff_getElem.mp hm
  rw [List.length_take] at hj
  obtain ⟨hi, rfl⟩ := List.getElem?_eq_some_iff.mp hx
  rw [List.getElem_take] at e
  exact nodup_ne h (by omega) hi (by omega) e
/-- the rows while they are made -/
def NearUp (H0 : Hp) (D : Addr) (ns : List Str) (f : Str → Addr) (H : Hp) : Prop := Same H0 H ∧ (∀ n ∈ ns, H (f n) = some (.lst []) ∧ H0 (f n) = none ∧ f n ≠ D) ∧ ∀ m ∈ ns, ∀ n ∈ ns, f m = f n → m = n
theorem NearUp.keep {H0 H H' : Hp} {D : Addr} {ns : List Str} {f : Str → Addr} (w : NearUp H0 D ns f H) (s : Same H H') : NearUp H0 D ns f H' := ⟨w.1.trans s, fun n hn => ⟨s _ _ (w.2.1 n hn).1, (w.2.1 n hn).2⟩, w.2.2⟩
theorem NearUp.put {H0 H : Hp} {D : Addr} {ns : List Str} {f : Str → Addr} {o : HO} (w : NearUp H0 D ns f H) (hD : H0 D = none) : NearUp H0 D ns f (upd H D o) :=
  ⟨fun b u e => by rw [upd_ne (ne_of_none e hD)]; exact w.1 _ _ e, fun n hn => ⟨by rw [upd_ne (w.2.1 n hn).2.2]; exact (w.2.1 n hn).1, (w.2.1 n hn).2⟩, w.2.2⟩
theorem NearUp.new {H0 H : Hp} {D l : Addr} {ns : List Str} {f : Str → Addr} {x : Str} (w : NearUp H0 D ns f H) (hx : x ∉ ns) (nl : H l = none) (hl : l ≠ D) : NearUp H0 D (ns ++ [x]) (fun n => if n = x then l else f n) (upd H l (.lst [])) := by
  have hf : ∀ n ∈ ns, (if n = x then l else f n) = f n := fun n hn => if_neg fun e => hx (by rw [← e]; exact hn)
  have hxl : (if x = x then l else f x) = l := if_pos rfl
  refine ⟨w.1.trans (same_upd nl), fun n hn => ?_, fun m hm n hn e => ?_⟩
  · rcases List.mem_append.mp hn with hn | hn
    · dsimp only
      rw [hf n hn]
      exact ⟨(same_upd nl) _ _ (w.2.1 n hn).1, (w.2.1 n hn).2⟩
    · rw [List.mem_singleton.mp hn]
      dsimp only
      rw [hxl]
      exact ⟨upd_same, w.1.free nl, hl⟩
  · have e : (if m = x then l else f m) = (if n = x then l else f n) := e
    have ne : ∀ n ∈ ns, f n ≠ l := fun n hn z => by
      have := (w.2.1 n hn).1
      rw [z, nl] at this; cases this
    rcases List.mem_append.mp hm with hm | hm <;> rcases List.mem_append.mp hn with hn | hn
    · rw [hf m hm, hf n hn] at e; exact w.2.2 m hm n hn e
    · rw [List.mem_singleton.mp hn, hf m hm, hxl] at e; exact absurd e (ne m hm)
    · rw [List.mem_singleton.mp hm, hf n hn, hxl] at e; exact absurd e.symm (ne n hn)
    · rw [List.mem_singleton.mp hm, List.mem_singleton.mp hn]
theorem NearUp.done {H0 H : Hp} {D d : Addr} {ns : List Str} {f : Str → Addr} (w : NearUp H0 D ns f H) (hd : H d = some (.dK (ns.map fun n => ((Sum.inr n : Key), V.ref (f n))))) : NearL f H d ns (nbr []) :=
  ⟨hd, fun n hn => (w.2.1 n hn).1, w.2.2⟩
/-- one tie more -/
theorem tie_push {H0 H : Hp} {d : Addr} {ns : List Str} {f : Str → Addr} {ts : List Tie} {t : Tie} (s : Same H0 H) (w : NearL f H d ns (nbr ts)) (h0 : ∀ n ∈ ns, H0 (f n) = none) (h1 : t.1 ∈ ns) (h2 : t.2 ∈ ns) (hne : t.1 ≠ t.2) :
    ∃ L1, NearL f (upd H (f t.1) (.lst ((nbr ts t.1).map V.str ++ [.str t.2]))) d ns L1 ∧ L1 t.2 = nbr ts t.2 ∧
      Same H0 (upd (upd H (f t.1) (.lst ((nbr ts t.1).map V.str ++ [.str t.2]))) (f t.2) (.lst ((nbr ts t.2).map V.str ++ [.str t.1]))) ∧
      NearL f (upd (upd H (f t.1) (.lst ((nbr ts t.1).map V.str ++ [.str t.2]))) (f t.2) (.lst ((nbr ts t.2).map V.str ++ [.str t.1]))) d ns (nbr (ts ++ [t])) := by
  have w1 := w.push (y := t.2) h1
  have e2 : (if t.2 = t.1 then nbr ts t.2 ++ [t.2] else nbr ts t.2) = nbr ts t.2 := if_neg (Ne.symm hne)
  have w2 := w1.push (y := t.1) h2
  rw [e2] at w2
  refine ⟨_, w1, e2, fun b o e => ?_, w2.congr fun n _ => nbr_push hne n⟩
  rw [upd_ne (ne_of_none e (h0 _ h2)), upd_ne (ne_of_none e (h0 _ h1))]
  exact s _ _ e
theorem near_turn {K : PySem.W.Frag} {D' : Ends} {i2 i3 i4 : Nat} {σ : L2.St} {H0 H : Hp} {d : Addr} {ns : List Str} {f : Str → Addr} {ts : List Tie} {t : Tie} (v2 : σ[i2]? = some (some (.ref d))) (v3 : σ[i3]? = some (some (.str t.1))) (v4 : σ[i4]? = some (some (.str t.2)))
    (s : Same H0 H) (w : NearL f H d ns (nbr ts)) (h0 : ∀ n ∈ ns, H0 (f n) = none) (h1 : t.1 ∈ ns) (h2 : t.2 ∈ ns) (hne : t.1 ≠ t.2) (hl : ts.length ≤ 100000) (fin : ∀ H', Same H0 H' → NearL f H' d ns (nbr (ts ++ [t])) → D'.nx σ H') :
    tSeq (tDrop (tBM K "list" rAppend (tDGet (tVar i2) (tVar i3)) (tCons (tVar i4) tNil))) (tDrop (tBM K "list" rAppend (tDGet (tVar i2) (tVar i4)) (tCons (tVar i3) tNil))) D' σ H := by
  obtain ⟨L1, w1, eL, s2, w2⟩ := tie_push s w h0 h1 h2 hne
  have q2 := w1.lst t.2 h2
  rw [eL] at q2
  have l1 := nbr_len ts t.1
  have l2 := nbr_len ts t.2
  refine rs_bm ⟨.ref d, v2, .str t.1, v3, d, .ref (f t.1), rfl, w.get h1, .inl ⟨rfl, _, sql_of (w.lst _ h1)⟩, .str t.2, v4, f t.1, _, _, rfl, rfl, w.lst _ h1, by rw [List.length_map, sizeLine_eq]; omega, ?_⟩
  exact ⟨.ref d, v2, .str t.2, v4, d, .ref (f t.2), rfl, w1.get h2, .inl ⟨rfl, _, sql_of q2⟩, .str t.1, v3, f t.2, _, _, rfl, rfl, q2, by rw [List.length_map, sizeLine_eq]; omega, fin _ s2 w2⟩
theorem rs_list {K : PySem.W.Frag} {te : TE} {g : TG} {tb u : TS} {D : Ends} {σ : L2.St} {H : Hp} (a : Addr) (xs : List V) (ha : ∀ Q : VK, Q (.ref a) H → te σ H Q) (Pv : Nat → L2.St → Hp → Prop) (h0 : Pv 0 σ H) (hl : ∀ i σ H, i ≤ xs.length → Pv i σ H → SqL K H a xs)
    (hs : ∀ i x σ H, xs[i]? = some x → Pv i σ H → g x σ H fun σ2 H2 => tb { D with nx := Pv (i + 1), ct := Pv (i + 1), bk := u D } σ2 H2) (hd : ∀ σ H, Pv xs.length σ H → u D σ H) : tSeq (tFor (iList K te) g tb) u D σ H :=
  ha _ ⟨a, rfl, ⟨xs, hl 0 σ H (Nat.zero_le _) h0⟩, for_list (D := { D with nx := u D }) Pv h0 hl hs hd⟩
theorem rs_tup {K : PySem.W.Frag} {te : TE} {g : TG} {tb u : TS} {D : Ends} {σ : L2.St} {H : Hp} (a : Addr) (xs : List V) (ha : ∀ Q : VK, Q (.ref a) H → te σ H Q) (Pv : Nat → L2.St → Hp → Prop) (h0 : Pv 0 σ H) (hl : ∀ i σ H, i ≤ xs.length → Pv i σ H → SqT K H a xs)
    (hs : ∀ i x σ H, xs[i]? = some x → Pv i σ H → g x σ H fun σ2 H2 => tb { D with nx := Pv (i + 1), ct := Pv (i + 1), bk := u D } σ2 H2) (hd : ∀ σ H, Pv xs.length σ H → u D σ H) : tSeq (tFor (iTup K te) g tb) u D σ H :=
  ha _ ⟨a, rfl, ⟨xs, hl 0 σ H (Nat.zero_le _) h0⟩, for_tup (D := { D with nx := u D }) Pv h0 hl hs hd⟩
theorem map_get {α : Type} {g : α → V} {xs : List α} {i : Nat} {x : V} (h : (xs.map g)[i]? = some x) : ∃ z, xs[i]? = some z ∧ x = g z := by
  rw [List.getElem?_map] at h
  cases hh : xs[i]? with
  | none => rw [hh] at h; cases h
  | some z => rw [hh] at h; exact ⟨z, rfl, (Option.some.inj h).symm⟩
theorem take_snoc {α : Type} {xs : List α} {i : Nat} {x : α} (h : xs[i]? = some x) : xs.take (i + 1) = xs.take i ++ [x] := by rw [List.take_succ, h]; rfl
theorem paired_in {α β : Type} {F G : α → β → Prop} : ∀ {xs : List α} {ys : List β}, (∀ x y, y ∈ ys → F x y → G x y) → Paired F xs ys → Paired G xs ys
  | _, _, _, .nil => .nil
  | _, _, h, .cons a t => .cons (h _ _ List.mem_cons_self a) (paired_in (fun x y hy => h x y (List.mem_cons_of_mem _ hy)) t)
theorem paired_map {α β γ : Type} {F : α → γ → Prop} {g : β → γ} : ∀ {xs : List α} {ys : List β}, Paired (fun x y => F x (g y)) xs ys → Paired F xs (ys.map g)
  | _, _, .nil => .nil
  | _, _, .cons a t => .cons a (paired_map t)
section
variable {P : Program} {w : World} {K : PySem.W.Frag} {mg : Str → Option Value} {base : Heap}
end
end Hw

set_option Elab.async false
set_option linter.all false
set_option maxRecDepth 100000
set_option maxHeartbeats 4000000
namespace Hw
open PySem L2 PyProof.Rows
abbrev AnyBlk (X : Cx) (scope : Scope) (R : Cx → Prop) : Prop := ∀ (s : Shared) (H : Hp) (C : Addr) (cl : List (Str × Addr)) (fp : List Addr), R (X.blk s H scope (compEnvC scope cl C X.env) fp)
section
variable {X : Cx}
theorem sw_dc {kx vx : Expr} {gs : List Comprehension} {scope : Scope} {pos py : Pos} {y : Str} {l : Nat} {env : Env} (h1 : env.scope.kind = .function) (h2 : env.scope.names.lookup y = some .local) (h3 : (py.line == pos.line) = true)
    (h4 : (scope.names.any fun (n, k) => n == y && (k == .local || k == .cell)) = false) : swapsWith (.DictComp kx vx gs scope pos) (some (.Name y py)) l env = pure true := by
  have a : env.blockKind = .function := by unfold Env.blockKind; rw [h1]; rfl
  have b : env.kindOf y = some .local := h2
  unfold swapsWith
  simp only [a, b, h4, Expr.pos, h3]
  rfl
/-- y = {k: v for ..}, stored while the block stands -/
theorem ps_setDc {i : Nat} {y : Str} {py pos spos : Pos} {kx vx tg iter : Expr} {ifs : List Expr} {scope : Scope} {own : List (Str × Nat)} {wi : TI} {g : TG} {tt : TT} {tk tv : TE} (calm : X.calm = true) (nd : X.N.Nodup) (hy : X.N[i]? = some y) (hyl : X.env.scope.names.lookup y = some .local)
    (sw : swapsWith (.DictComp kx vx [⟨tg, iter, ifs, 0⟩] scope pos) (some (.Name y py)) spos.line X.env = pure true) (walks : PI X tg iter wi) (blk : BlkOk X.N X.env.scope scope own)
    (target : AnyBlk X scope fun Y => PG Y tg g) (tests : AnyBlk X scope fun Y => PTs Y ifs tt) (keys : AnyBlk X scope fun Y => PE Y kx tk) (vals : AnyBlk X scope fun Y => PE Y vx tv) (hs : ∀ x, foldedSetIterable iter X.env x = pure x := by intro _; rfl) :
    PS X (.Assign [.Name y py] (.DictComp kx vx [⟨tg, iter, ifs, 0⟩] scope pos) spos) (tAsg (tDc wi g tt tk tv (own.map (·.2))) (gName i)) := by
  refine ⟨fun pins s σ H D I reading => ?_⟩
  rw [exec_Assign_Name_used _ _ _ _ sw]
  refine wpAny_bind (wpAny_standAt (wpAny_bind ?_))
  show wpAny _ X.A (do let _ ← comprehension (.DictComp kx vx [⟨tg, iter, ifs, 0⟩] scope pos) scope X.env (firstIterPos [⟨tg, iter, ifs, 0⟩] pos) newDict false (eval iter X.env) (some (assign (.Name y py) X.env))) _ _ s
  have reading' : tDc wi g tt tk tv (own.map (·.2)) σ H (fun x H1 => gName i x σ H1 D.nx) := reading
  refine wpAny_bind (thn (dc_core (Qf := fun _ s' => SP X pins D .next s') calm nd I walks blk target tests keys vals hs reading' ?_) fun _ s' done => wpAny_pure (wpAny_pure done))
  intro L C s' m H' I' q ns f
  show wpAny _ _ (assign (.Name y py) X.env (.ref L)) _ _ _
  refine wpAny_assign_Name (store_ok2 (v := V.ref L) I' nd hy (.inl hyl) rfl (fun s2 I2 put => ?_) (.inr hyl))
  obtain ⟨a, sb, ha⟩ := put
  obtain ⟨f0, f1, f2, f3, f4, f5⟩ := f
  have ne : C ≠ a := ha.elim (fun z => by rw [z]; exact f1) (fun z e => f4 y a z e.symm)
  exact ⟨m, ns.sameBut sb ne, fun h3 sb3 => ⟨_, H', I2.turned (t' := s2.toks) (fun b o hb e => (sb3.2 b hb).trans e) f0 f1 f3 f4 f5, q⟩⟩
end
end Hw

set_option Elab.async false
set_option linter.all false
set_option maxRecDepth 100000
set_option maxHeartbeats 4000000
namespace Hw
open PySem L2 PyProof.Rows
abbrev sTied : Stmt := topS 8
/-- places, ties as tuples, and what is told of them -/
structure FineW (ns : List Str) (ts : List Tie) : Prop where
  nd : ns.Nodup
  few : ns.length ≤ 200
  tie : ∀ t ∈ ts, t.1 ∈ ns ∧ t.2 ∈ ns ∧ strLt t.1 t.2 = true
  tfew : ts.length ≤ 100000
def spTied : Sp := fun vs H Q _ => ∃ (p tl : Addr) (ns : List Str) (ts : List Tie) (qs : List Addr), vs = [.ref p, .ref tl] ∧ FineW ns ts ∧ H p = some (.tup (ns.map V.str)) ∧ H tl = some (.tup (qs.map V.ref)) ∧ Paired (TieL H) qs ts ∧
  ∀ d f H', Same H H' → NearL f H' d ns (nbr ts) → H d = none → (∀ n ∈ ns, H (f n) = none) → Q (.ref d) H'
theorem putK_names {ns : List Str} {f : Str → Addr} {z : Str} {l : Addr} (h : z ∉ ns) : putK (ns.map fun n => ((Sum.inr n : Key), V.ref (f n))) (Sum.inr z) (V.ref l) = (ns ++ [z]).map fun n => ((Sum.inr n : Key), V.ref (if n = z then l else f n)) := by
  rw [putK_new _ (by rw [valV_names (g := fun n => V.ref (f n)), if_neg h]), List.map_append]
  congr 1
  · exact List.map_congr_left fun n hn => by rw [if_neg (fun e => h (by rw [← e]; exact hn))]
  · simp
section
variable {P : Program} {w : World} {K : PySem.W.Frag} {mg : Str → Option Value} {base : Heap}
theorem scTied : FnScope ["places", "ties", "tied", "one", "other", "place"] ["places", "ties"] (defScope sTied) := ⟨rfl, rfl, rfl, by decide +kernel, rfl, by decide +kernel, by decide +kernel⟩
theorem ok_tied {f : Addr} {fd : FuncData} {k : Nat} (F : Fun K "tied_by" "tied_by" sTied f fd) : FnOk P w K mg base CX0 (k + 1) f fd ["places", "ties"] spTied := by
  refine F.ok scTied (fun vs H Q E h => ?_) (fun cdv A outer s H vs Q E hr h => ?_)
  · obtain ⟨p, tl, ns, ts, qs, rfl, _⟩ := h
    rfl
  · obtain ⟨p, tl, ns, ts, qs, rfl, own, e1, e3, e4, q⟩ := h
    have hu := hu_of hr
    refine ⟨_, pss_cons (ps_setDc (i := 2) (own := [("place", 5)]) (g := gName 5) (tt := tYes) rfl scTied.nd rfl rfl (sw_dc rfl rfl rfl (by decide +kernel)) (pi_tup (pv 0))
        (blkOk_by (N := ["places", "ties", "tied", "one", "other", "place"]) (sc := defScope sTied) (by decide +kernel)) (fun _ _ _ _ _ => pg_name (i := 5) scTied.nd rfl (Or.inl rfl)) (fun _ _ _ _ _ => pts_nil)
        (fun _ _ _ _ _ => pv 5) (fun _ _ _ _ _ => pe_lst pa_nil))
      (pss_cons (ps_for PassesOwn.never rfl (pi_tup (pv 1)) (pg_tup rfl (pgs_cons (pg_name (i := 3) scTied.nd rfl (Or.inl rfl)) (pgs_cons (pg_name (i := 4) scTied.nd rfl (Or.inl rfl)) pgs_nil)))
        (pss_cons (ps_expr (pe_bm PySem.F.plainAttrs_list PySem.F.slot_list_append PySem.F.type_list_append mt_append (pe_dget hu (pv 2) (pv 3) (fun _ _ => rfl)) (pa_cons (pv 4) pa_nil)))
        (pss_one (ps_expr (pe_bm PySem.F.plainAttrs_list PySem.F.slot_list_append PySem.F.type_list_append mt_append (pe_dget hu (pv 2) (pv 4) (fun _ _ => rfl)) (pa_cons (pv 3) pa_nil))))))
      (pss_one (ps_ret (pv 2)))), ?_⟩
    have l40 := own.few
    have l1000 := own.tfew
    have hnd := own.nd
    refine rs_set ?_
    refine ⟨.ref p, rfl, p, rfl, ⟨_, sqt_of e1⟩, fun D nD => dc_tup (xs := ns.map V.str) (fun i H' => ∃ f, NearUp H D (ns.take i) f H' ∧ H' D = some (.dK ((ns.take i).map fun n => ((Sum.inr n : Key), V.ref (f n)))))
      ⟨fun _ => 0, ⟨same_upd nD, (fun _ z => nomatch z), (fun _ z => nomatch z)⟩, upd_same⟩ (fun i H' _ ⟨f, w, _⟩ => sqt_of (w.1 _ _ e1)) ?_ ?_⟩
    · rintro i x H' hx ⟨f, w, eD⟩
      obtain ⟨z, hz, rfl⟩ := map_get hx
      have hzt := nodup_take hnd hz
      refine ⟨rfl, r_yes ?_⟩
      refine ⟨.str z, rfl, Nat.zero_le _, fun l nl => ?_⟩
      have hl : l ≠ D := fun e => by rw [e, eD] at nl; cases nl
      have w1 := w.new hzt nl hl
      refine ⟨_, Sum.inr z, rfl, (same_upd nl) _ _ eD, small1000 (by rw [List.length_map, List.length_take]; omega), fun n => if n = z then l else f n, by rw [take_snoc hz]; exact w1.put nD, ?_⟩
      rw [upd_same, take_snoc hz, putK_names hzt]
    · rintro H1 ⟨f, w, eD⟩
      rw [List.length_map, List.take_length] at w eD
      have nl0 := w.done eD
      have s0 := w.1
      have hf0 : ∀ n ∈ ns, H (f n) = none := fun n hn => (w.2.1 n hn).2.1
      refine rs_tup tl (qs.map V.ref) (fun Q1 q1 => ⟨_, rfl, q1⟩) (fun i σ' H' => ∃ o3 o4, σ' = [some (.ref p), some (.ref tl), some (.ref D), o3, o4, none] ∧ Same H H' ∧ NearL f H' D ns (nbr (ts.take i)))
        ⟨_, _, rfl, s0, nl0⟩ (fun i σ' H' _ ⟨o3, o4, _, sx, _⟩ => sqt_of (sx _ _ e3)) ?_ ?_
      · rintro i x σ2 H2 hx ⟨o3, o4, rfl, sx, nl⟩
        obtain ⟨q', hq', rfl⟩ := map_get hx
        obtain ⟨t, ht, et⟩ := paired_get e4 hq'
        obtain ⟨m1, m2, m3⟩ := own.tie t (List.mem_of_getElem? ht)
        refine ⟨q', [.str t.1, .str t.2], rfl, sqt_of (sx _ _ et), rfl, _, [.str t.2], rfl, _, [], rfl, rfl, ?_⟩
        refine near_turn (t := t) (ts := ts.take i) rfl rfl rfl sx nl hf0 m1 m2 (strLt_ne m3) (by rw [List.length_take]; omega) (fun H3 s3 n3 => ⟨_, _, rfl, s3, by rw [take_snoc ht]; exact n3⟩)
      · rintro σ2 H2 ⟨o3, o4, rfl, sx, nl⟩
        rw [List.length_map, Paired.length e4, List.take_length] at nl
        exact ⟨.ref D, rfl, q D f H2 sx nl nD hf0⟩
end
end Hw

set_option Elab.async false
set_option linter.all false
set_option maxRecDepth 100000
set_option maxHeartbeats 4000000
namespace Hw
open PySem L2 PyProof.Rows
/-! how far, level by level -/
abbrev Far := List (Str × Nat)
def lookF (far : Far) (n : Str) : Nat := ((far.find? fun p => decide (p.1 = n)).map (·.2)).getD 0
def encF (far : Far) : List (Key × V) := far.map fun p => ((Sum.inr p.1 : Key), V.int (p.2 : Int))
theorem valV_far (far : Far) (n : Str) : valV (encF far) (Sum.inr n) = if n ∈ far.map (·.1) then some (.int (lookF far n : Nat)) else none := by
  induction far with
  | nil => exact valV_nil
  | cons p far ih =>
    show valV (((Sum.inr p.1 : Key), V.int (p.2 : Int)) :: encF far) _ = _
    by_cases h : p.1 = n
    · rw [valV_pos (congrArg Sum.inr h), if_pos (by rw [← h]; exact List.mem_cons_self)]
      show some (V.int _) = some (V.int _)
      unfold lookF
      rw [List.find?_cons_of_pos (by exact decide_eq_true h)]
      rfl
    · rw [valV_neg (fun e => h (Sum.inr.inj e)), ih]
      have e : lookF (p :: far) n = lookF far n := by
        unfold lookF
        rw [List.find?_cons_of_neg (by simpa using h)]
      rw [e, List.map_cons]
      by_cases hm : n ∈ far.map (·.1)
      · rw [if_pos hm, if_pos (List.mem_cons_of_mem _ hm)]
      · rw [if_neg hm, if_neg (fun z => by rcases List.mem_cons.mp z with z | z; exact h z.symm; exact hm z)]
def stepO (one : Str) (s : Far × List Str) (o : Str) : Far × List Str := if o ∈ s.1.map (·.1) then s else (s.1 ++ [(o, lookF s.1 one + 1)], s.2 ++ [o])
def stepE (nb : Str → List Str) (s : Far × List Str) (one : Str) : Far × List Str := (nb one).foldl (stepO one) s
def lvl (nb : Str → List Str) (s : Far × List Str) : Far × List Str := s.2.foldl (stepE nb) (s.1, [])
def lev (nb : Str → List Str) (p : Str) : Nat → Far × List Str
  | 0 => ([(p, 0)], [p])
  | i + 1 => lvl nb (lev nb p i)
/-- what stands at every moment -/
structure FarOk (ns : List Str) (n0 : Nat) (s : Far × List Str) : Prop where
  nd : (s.1.map (·.1)).Nodup
  sub : ∀ n ∈ s.1.map (·.1), n ∈ ns
  bey : ∀ n ∈ s.2, n ∈ s.1.map (·.1)
  len : s.1.length = n0 + s.2.length
theorem FarOk.few {ns : List Str} {n0 : Nat} {s : Far × List Str} (f : FarOk ns n0 s) : s.1.length ≤ ns.length := by
  have := sub_len f.nd f.sub
  rw [List.length_map] at this
  exact this
theorem FarOk.stepO {ns : List Str} {n0 : Nat} {s : Far × List Str} (f : FarOk ns n0 s) {one o : Str} (ho : o ∈ ns) : FarOk ns n0 (stepO one s o) ∧ ∀ n ∈ s.1.map (·.1), n ∈ (Hw.stepO one s o).1.map (·.1) := by
  unfold Hw.stepO
  by_cases h : o ∈ s.1.map (·.1)
  · rw [if_pos h]; exact ⟨f, fun _ z => z⟩
  · rw [if_neg h]
    refine ⟨⟨?_, ?_, ?_, ?_⟩, ?_⟩
    · show ((s.1 ++ [(o, lookF s.1 one + 1)]).map (·.1)).Nodup
      rw [List.map_append, List.nodup_append]
      exact ⟨f.nd, by simp, fun x hx y hy e => h (by rw [List.mem_singleton.mp hy] at e; rw [show x = o from e] at hx; exact hx)⟩
    · intro n hn
      have hn : n ∈ (s.1 ++ [(o, lookF s.1 one + 1)]).map (·.1) := hn
      rw [List.map_append] at hn
      rcases List.mem_append.mp hn with hn | hn
      · exact f.sub n hn
      · rw [List.mem_singleton.mp hn]; exact ho
    · intro n hn
      show n ∈ (s.1 ++ [(o, lookF s.1 one + 1)]).map (·.1)
      rw [List.map_append]
      rcases List.mem_append.mp hn with hn | hn
      · exact List.mem_append_left _ (f.bey n hn)
      · exact List.mem_append_right _ (by rw [List.mem_singleton.mp hn]; exact List.mem_cons_self)
    · show (s.1 ++ [_]).length = n0 + (s.2 ++ [_]).length
      rw [List.length_append, List.length_append, f.len]; rfl
    · intro n hn
      show n ∈ (s.1 ++ [(o, lookF s.1 one + 1)]).map (·.1)
      rw [List.map_append]
      exact List.mem_append_left _ hn
theorem FarOk.foldO {ns : List Str} {n0 : Nat} {one : Str} : ∀ {os : List Str} {s : Far × List Str}, FarOk ns n0 s → (∀ o ∈ os, o ∈ ns) → FarOk ns n0 (os.foldl (Hw.stepO one) s) ∧ ∀ n ∈ s.1.map (·.1), n ∈ (os.foldl (Hw.stepO one) s).1.map (·.1)
  | [], _, f, _ => ⟨f, fun _ z => z⟩
  | o :: os, s, f, h => by
    obtain ⟨f1, k1⟩ := f.stepO (one := one) (h o List.mem_cons_self)
    obtain ⟨f2, k2⟩ := FarOk.foldO (one := one) f1 fun o ho => h o (List.mem_cons_of_mem _ ho)
    exact ⟨f2, fun n hn => k2 n (k1 n hn)⟩
theorem FarOk.foldE {ns : List Str} {n0 : Nat} {nb : Str → List Str} (hnb : ∀ n ∈ ns, ∀ o ∈ nb n, o ∈ ns) : ∀ {es : List Str} {s : Far × List Str}, FarOk ns n0 s → (∀ o ∈ es, o ∈ ns) → FarOk ns n0 (es.foldl (stepE nb) s) ∧ ∀ n ∈ s.1.map (·.1), n ∈ (es.foldl (stepE nb) s).1.map (·.1)
  | [], _, f, _ => ⟨f, fun _ z => z⟩
  | o :: os, s, f, h => by
    obtain ⟨f1, k1⟩ := f.foldO (one := o) (hnb o (h o List.mem_cons_self))
    obtain ⟨f2, k2⟩ := FarOk.foldE hnb f1 fun o ho => h o (List.mem_cons_of_mem _ ho)
    exact ⟨f2, fun n hn => k2 n (k1 n hn)⟩
theorem FarOk.lvl {ns : List Str} {n0 : Nat} {nb : Str → List Str} (hnb : ∀ n ∈ ns, ∀ o ∈ nb n, o ∈ ns) {s : Far × List Str} (f : FarOk ns n0 s) : FarOk ns s.1.length (lvl nb s) :=
  (FarOk.foldE hnb (s := (s.1, [])) ⟨f.nd, f.sub, (fun _ z => nomatch z), rfl⟩ fun o ho => f.sub o (f.bey o ho)).1
theorem lev_ok {ns : List Str} {nb : Str → List Str} (hnb : ∀ n ∈ ns, ∀ o ∈ nb n, o ∈ ns) {p : Str} (hp : p ∈ ns) : ∀ i, ∃ n0, FarOk ns n0 (lev nb p i)
  | 0 => ⟨0, by simp [lev], by simp [lev, hp], by simp [lev], by simp [lev]⟩
  | i + 1 => by
    obtain ⟨n0, f⟩ := lev_ok hnb hp i
    exact ⟨_, f.lvl hnb⟩
def muF (ns : List Str) (s : Far × List Str) : Nat := 2 * (ns.length - s.1.length) + (if s.2 = [] then 0 else 1)
theorem mu_lvl {ns : List Str} {n0 : Nat} {nb : Str → List Str} (hnb : ∀ n ∈ ns, ∀ o ∈ nb n, o ∈ ns) {s : Far × List Str} (f : FarOk ns n0 s) (hs : s.2 ≠ []) : muF ns (lvl nb s) < muF ns s := by
  have f1 := f.lvl hnb
  have l1 := f1.len
  have l2 := f1.few
  have l3 := f.few
  unfold muF
  rw [if_neg hs]
  by_cases h : (Hw.lvl nb s).2 = []
  · rw [if_pos h]
    rw [h] at l1
    have : (Hw.lvl nb s).1.length = s.1.length := l1
    omega
  · rw [if_neg h]
    have : 0 < (Hw.lvl nb s).2.length := List.length_pos_iff.mpr h
    omega
/-- all that is joined to p, with how far it is -/
def Bfs (nb : Str → List Str) (p : Str) (far : Far) : Prop := ∃ i, lev nb p i = (far, [])
theorem lev_stay {nb : Str → List Str} {p : Str} {far : Far} {i : Nat} (h : lev nb p i = (far, [])) : ∀ k, lev nb p (i + k) = (far, [])
  | 0 => h
  | k + 1 => by
    show lvl nb (lev nb p (i + k)) = _
    rw [lev_stay h k]; rfl
theorem Bfs.uniq {nb : Str → List Str} {p : Str} {far far' : Far} (h : Bfs nb p far) (h' : Bfs nb p far') : far = far' := by
  obtain ⟨i, h⟩ := h
  obtain ⟨j, h'⟩ := h'
  have a := lev_stay h j
  have b := lev_stay h' i
  rw [Nat.add_comm] at b
  rw [a] at b
  exact congrArg Prod.fst b
end Hw

set_option Elab.async false
set_option linter.all false
set_option maxRecDepth 100000
set_option maxHeartbeats 4000000
namespace Hw
open PySem L2 PyProof.Rows
structure BfsH (H0 : Hp) (fd el bl : Addr) (s : Far × List Str) (edge : List Str) (H : Hp) : Prop where
  same : Same H0 H
  far : H fd = some (.dK (encF s.1))
  edge : H el = some (.lst (edge.map V.str))
  bey : H bl = some (.lst (s.2.map V.str))
  f0 : H0 fd = none
  b0 : H0 bl = none
  ne : el ≠ bl
def oneB (K : PySem.W.Frag) : TS := tIfS (tB (tDNotIn (tVar 6) (tVar 2))) (tSeq (sDPut (tVar 2) (tVar 6) (tOp (rI0 fun i j => V.int (i + j)) (tDGet (tVar 2) (tVar 5)) (tC (V.int 1)))) (tDrop (tBM K "list" rAppend (tVar 4) (tCons (tVar 6) tNil)))) tNext
def lapB (K : PySem.W.Frag) (te : TE) : TS := tSeq (tAsg (tLst tNil) (gName 4)) (tSeq (tFor (iList K (tVar 3)) (gName 5) (tFor (iList K te) (gName 6) (oneB K))) (tAsg (tVar 4) (gName 3)))
theorem bfs_one {K : PySem.W.Frag} {D : Ends} {s0 s1 : Option V} {H0 H : Hp} {fd el bl : Addr} {s : Far × List Str} {edge ns : List Str} {n0 : Nat} {one o : Str} (h : BfsH H0 fd el bl s edge H) (f : FarOk ns n0 s) (hl : ns.length ≤ 1000) (h1 : one ∈ s.1.map (·.1)) (ho : o ∈ ns)
    (fin : ∀ H', BfsH H0 fd el bl (stepO one s o) edge H' → D.nx [s0, s1, some (.ref fd), some (.ref el), some (.ref bl), some (.str one), some (.str o)] H') : oneB K D [s0, s1, some (.ref fd), some (.ref el), some (.ref bl), some (.str one), some (.str o)] H := by
  have few := f.few
  have len := f.len
  refine ⟨.str o, rfl, .ref fd, rfl, fd, _, rfl, DGet.k (k := Sum.inr o) h.far, _, rfl, ?_⟩
  rw [valV_far]
  by_cases hm : o ∈ s.1.map (·.1)
  · rw [if_pos hm]
    have := fin H (by unfold stepO; rw [if_pos hm]; exact h)
    exact this
  · rw [if_neg hm]
    have g1 : DGet H fd (.str one) (some (.int (lookF s.1 one : Nat))) := by
      have := DGet.k (k := Sum.inr one) h.far
      rw [valV_far, if_pos h1] at this
      exact this
    refine ⟨.ref fd, rfl, .str one, rfl, fd, _, rfl, g1, _, _, rfl, rfl, .ref fd, rfl, .str o, rfl, fd, _, rfl, DPut.k (k := Sum.inr o) h.far (by unfold encF; rw [List.length_map]; exact small1000 (by omega)), ?_⟩
    have hn : valV (encF s.1) (Sum.inr o) = none := by rw [valV_far, if_neg hm]
    rw [putK_new _ hn]
    have nfb : bl ≠ fd := ne_of h.bey h.far (fun z => nomatch z)
    have nef : el ≠ fd := ne_of h.edge h.far (fun z => nomatch z)
    refine ⟨.ref bl, rfl, .inl ⟨rfl, _, sql_of (by rw [upd_ne nfb]; exact h.bey)⟩, .str o, rfl, bl, _, _, rfl, rfl, by rw [upd_ne nfb]; exact h.bey, small1000 (by rw [List.length_map]; omega), fin _ ?_⟩
    unfold stepO
    rw [if_neg hm]
    refine ⟨fun b u e => ?_, ?_, ?_, ?_, h.f0, h.b0, h.ne⟩
    · rw [upd_ne (ne_of_none e h.b0), upd_ne (ne_of_none e h.f0)]
      exact h.same _ _ e
    · rw [upd_ne (Ne.symm nfb), upd_same]
      show some (HO.dK (encF s.1 ++ [_])) = some (HO.dK (encF (s.1 ++ [_])))
      unfold encF
      rw [List.map_append]
      rfl
    · rw [upd_ne h.ne, upd_ne nef]; exact h.edge
    · rw [upd_same]
      show _ = some (HO.lst ((s.2 ++ [o]).map V.str))
      rw [List.map_append]; rfl
theorem foldl_snoc {α β : Type} {g : β → α → β} {xs : List α} {i : Nat} {x : α} {b : β} (h : xs[i]? = some x) : (xs.take (i + 1)).foldl g b = g ((xs.take i).foldl g b) x := by
  rw [take_snoc h, List.foldl_append]; rfl
/-- the neighbours of one place -/
theorem bfs_all {K : PySem.W.Frag} {D : Ends} {te : TE} {s0 s1 o6 : Option V} {H0 H : Hp} {fd el bl : Addr} {s : Far × List Str} {edge ns : List Str} {nb : Str → List Str} {n0 : Nat} {one : Str} {a : Addr} (h : BfsH H0 fd el bl s edge H) (f : FarOk ns n0 s) (hl : ns.length ≤ 1000) (h1 : one ∈ s.1.map (·.1)) (hnb : ∀ o ∈ nb one, o ∈ ns)
    (ha : H0 a = some (.lst ((nb one).map V.str))) (hte : ∀ Q : VK, Q (.ref a) H → te [s0, s1, some (.ref fd), some (.ref el), some (.ref bl), some (.str one), o6] H Q)
    (fin : ∀ H' o6', BfsH H0 fd el bl (stepE nb s one) edge H' → D.nx [s0, s1, some (.ref fd), some (.ref el), some (.ref bl), some (.str one), o6'] H') : tFor (iList K te) (gName 6) (oneB K) D [s0, s1, some (.ref fd), some (.ref el), some (.ref bl), some (.str one), o6] H := by
  refine hte _ ⟨a, rfl, ⟨_, sql_of (h.same _ _ ha)⟩, for_list (xs := (nb one).map V.str) (fun i σ' H' => ∃ o6', σ' = [s0, s1, some (.ref fd), some (.ref el), some (.ref bl), some (.str one), o6'] ∧ BfsH H0 fd el bl (((nb one).take i).foldl (stepO one) s) edge H') ⟨_, rfl, h⟩ (fun i σ' H' _ ⟨_, _, w⟩ => sql_of (w.same _ _ ha)) ?_ ?_⟩
  · rintro i x σ' H' hx ⟨o6', rfl, w⟩
    obtain ⟨o, ho, rfl⟩ := map_get hx
    obtain ⟨fi, ki⟩ := f.foldO (one := one) (os := (nb one).take i) fun o ho => hnb o (List.mem_of_mem_take ho)
    exact bfs_one w fi hl (ki _ h1) (hnb o (List.mem_of_getElem? ho)) fun H'' w' => ⟨_, rfl, by rw [foldl_snoc ho]; exact w'⟩
  · rintro σ' H' ⟨o6', rfl, w⟩
    rw [List.length_map, List.take_length] at w
    exact fin H' o6' w
/-- a level -/
theorem bfs_lap {K : PySem.W.Frag} {D : Ends} {te : TE} {s0 s1 o4 o5 o6 : Option V} {H0 H : Hp} {fd el : Addr} {s : Far × List Str} {ns : List Str} {nb : Str → List Str} {n0 : Nat} {fa : Str → Addr} (e1 : Same H0 H) (e2 : H fd = some (.dK (encF s.1))) (e3 : H el = some (.lst (s.2.map V.str))) (f0 : H0 fd = none) (f : FarOk ns n0 s) (hl : ns.length ≤ 1000) (hnb : ∀ n ∈ ns, ∀ o ∈ nb n, o ∈ ns)
    (ha : ∀ n ∈ ns, H0 (fa n) = some (.lst ((nb n).map V.str))) (hte : ∀ n ∈ ns, ∀ (bl : Addr) (o6 : Option V) (H' : Hp) (Q : VK), Same H0 H' → Q (.ref (fa n)) H' → te [s0, s1, some (.ref fd), some (.ref el), some (.ref bl), some (.str n), o6] H' Q)
    (fin : ∀ H' bl o5' o6', Same H0 H' → H' fd = some (.dK (encF (lvl nb s).1)) → H' bl = some (.lst ((lvl nb s).2.map V.str)) → D.nx [s0, s1, some (.ref fd), some (.ref bl), some (.ref bl), o5', o6'] H') : lapB K te D [s0, s1, some (.ref fd), some (.ref el), o4, o5, o6] H := by
  refine rs_set ⟨Nat.zero_le _, fun bl nbl => ?_⟩
  have nel : el ≠ bl := ne_of_none e3 nbl
  have w0 : BfsH H0 fd el bl (s.1, []) s.2 (upd H bl (.lst [])) := ⟨e1.trans (same_upd nbl), (same_upd nbl) _ _ e2, (same_upd nbl) _ _ e3, upd_same, f0, e1.free nbl, nel⟩
  have f1 : FarOk ns s.1.length (s.1, []) := ⟨f.nd, f.sub, (fun _ z => nomatch z), rfl⟩
  refine rs_list el (s.2.map V.str) (fun Q q => ⟨_, rfl, q⟩) (fun i σ' H' => ∃ o5' o6', σ' = [s0, s1, some (.ref fd), some (.ref el), some (.ref bl), o5', o6'] ∧ BfsH H0 fd el bl ((s.2.take i).foldl (stepE nb) (s.1, [])) s.2 H') ⟨_, _, rfl, w0⟩ (fun i σ' H' _ ⟨_, _, _, w⟩ => sql_of w.edge) ?_ ?_
  · rintro i x σ' H' hx ⟨o5', o6', rfl, w⟩
    obtain ⟨one, ho, rfl⟩ := map_get hx
    have h1 := f.bey one (List.mem_of_getElem? ho)
    have hin := f.sub one h1
    obtain ⟨fi, ki⟩ := f1.foldE hnb (es := s.2.take i) fun o ho => f.sub o (f.bey o (List.mem_of_mem_take ho))
    refine r_gname ?_
    exact bfs_all w fi hl (ki _ h1) (hnb one hin) (ha one hin) (fun Q q => hte one hin bl o6' H' Q w.same q) fun H'' o6'' w' => ⟨_, _, rfl, by rw [foldl_snoc ho]; exact w'⟩
  · rintro σ' H' ⟨o5', o6', rfl, w⟩
    rw [List.length_map, List.take_length] at w
    exact ⟨.ref bl, rfl, fin H' bl o5' o6' w.same w.far w.bey⟩
end Hw

set_option Elab.async false
set_option linter.all false
set_option maxRecDepth 100000
set_option maxHeartbeats 4000000
namespace HI
open PySem L2 PyProof.Rows Hw
abbrev Tie := Int × Int
theorem nodup_ne {ns : List Int} (h : ns.Nodup) {i j : Nat} (hi : i < ns.length) (hj : j < ns.length) (hij : i < j) : ns[i] ≠ ns[j] := List.pairwise_iff_getElem.mp h i j hi hj hij
def nbr (ts : List Tie) (n : Int) : List Int := ts.flatMap fun t => (if t.1 = n then [t.2] else []) ++ (if t.2 = n then [t.1] else [])
theorem nbr_len (ts : List Tie) (n : Int) : (nbr ts n).length ≤ 2 * ts.length := by
  induction ts with
  | nil => exact Nat.zero_le _
  | cons t ts ih =>
    have e : nbr (t :: ts) n = ((if t.1 = n then [t.2] else []) ++ (if t.2 = n then [t.1] else [])) ++ nbr ts n := by simp [nbr]
    rw [e, List.length_append, List.length_append, List.length_cons]
    have h1 : (if t.1 = n then [t.2] else []).length ≤ 1 := by split <;> simp
    have h2 : (if t.2 = n then [t.1] else []).length ≤ 1 := by split <;> simp
    omega
theorem nbr_mem {ns : List Int} {ts : List Tie} (h : ∀ t ∈ ts, t.1 ∈ ns ∧ t.2 ∈ ns ∧ t.1 < t.2) {n m : Int} (hm : m ∈ nbr ts n) : m ∈ ns := by
  obtain ⟨t, ht, hm⟩ := List.mem_flatMap.mp hm
  obtain ⟨h1, h2, _⟩ := h t ht
  rcases List.mem_append.mp hm with hm | hm
  · split at hm
    · rw [List.mem_singleton.mp hm]; exact h2
    · cases hm
  · split at hm
    · rw [List.mem_singleton.mp hm]; exact h1
    · cases hm
theorem valV_names {g : Int → V} {ns : List Int} (w : Int) : valV (ns.map fun z => ((Sum.inl z : Key), g z)) (Sum.inl w) = if w ∈ ns then some (g w) else none := by
  induction ns with
  | nil => exact valV_nil
  | cons z ns ih =>
    rw [List.map_cons]
    by_cases h : z = w
    · subst h
      rw [valV_pos rfl, if_pos List.mem_cons_self]
    · rw [valV_neg (fun e => h (Sum.inl.inj e)), ih]
      by_cases hm : w ∈ ns
      · rw [if_pos hm, if_pos (List.mem_cons_of_mem _ hm)]
      · rw [if_neg hm, if_neg (fun e => by rcases List.mem_cons.mp e with rfl | e; exact h rfl; exact hm e)]
structure NearL (f : Int → Addr) (H : Hp) (d : Addr) (ns : List Int) (L : Int → List Int) : Prop where
  dict : H d = some (.dK (ns.map fun n => ((Sum.inl n : Key), V.ref (f n))))
  lst : ∀ n ∈ ns, H (f n) = some (.lst ((L n).map V.int))
  inj : ∀ m ∈ ns, ∀ n ∈ ns, f m = f n → m = n
theorem NearL.get {f : Int → Addr} {H : Hp} {d : Addr} {ns : List Int} {L : Int → List Int} (w : NearL f H d ns L) {n : Int} (h : n ∈ ns) : DGet H d (.int n) (some (.ref (f n))) := by
  have := DGet.k (k := Sum.inl n) w.dict
  rw [valV_names (g := fun n => V.ref (f n)), if_pos h] at this
  exact this
theorem NearL.keep {f : Int → Addr} {H H' : Hp} {d : Addr} {ns : List Int} {L : Int → List Int} (w : NearL f H d ns L) (s : Same H H') : NearL f H' d ns L :=
  ⟨s _ _ w.dict, fun n hn => s _ _ (w.lst n hn), w.inj⟩
theorem NearL.congr {f : Int → Addr} {H : Hp} {d : Addr} {ns : List Int} {L M : Int → List Int} (w : NearL f H d ns L) (h : ∀ n ∈ ns, L n = M n) : NearL f H d ns M :=
  ⟨w.dict, fun n hn => by rw [← h n hn]; exact w.lst n hn, w.inj⟩
theorem NearL.push {f : Int → Addr} {H : Hp} {d : Addr} {ns : List Int} {L : Int → List Int} (w : NearL f H d ns L) {x y : Int} (hx : x ∈ ns) : NearL f (upd H (f x) (.lst ((L x).map V.int ++ [.int y]))) d ns (fun n => if n = x then L n ++ [y] else L n) := by
  refine ⟨?_, fun n hn => ?_, w.inj⟩
  · rw [upd_ne (ne_of w.dict (w.lst x hx) (fun z => nomatch z))]; exact w.dict
  · by_cases h : n = x
    · subst h
      rw [upd_same, if_pos rfl, List.map_append]; rfl
    · rw [upd_ne (fun e => h (w.inj n hn x hx e)), if_neg h]; exact w.lst n hn
theorem nbr_snoc (ts : List Tie) (t : Tie) (n : Int) : nbr (ts ++ [t]) n = nbr ts n ++ ((if t.1 = n then [t.2] else []) ++ (if t.2 = n then [t.1] else [])) := by simp [nbr]
theorem nbr_push {ts : List Tie} {t : Tie} (h : t.1 ≠ t.2) (n : Int) : (if n = t.2 then (if n = t.1 then nbr ts n ++ [t.2] else nbr ts n) ++ [t.1] else (if n = t.1 then nbr ts n ++ [t.2] else nbr ts n)) = nbr (ts ++ [t]) n := by
  rw [nbr_snoc]
  by_cases h1 : n = t.1
  · have h2 : n ≠ t.2 := fun e => h (h1.symm.trans e)
    rw [if_neg h2, if_pos h1, if_pos h1.symm, if_neg (Ne.symm h2)]; simp
  · by_cases h2 : n = t.2
    · rw [if_pos h2, if_neg h1, if_neg (Ne.symm h1), if_pos h2.symm]; simp
    · rw [if_neg h2, if_neg h1, if_neg (Ne.symm h1), if_neg (Ne.symm h2)]; simp
abbrev TieL (H : Hp) (q : Addr) (t : Tie) : Prop := H q = some (.tup [.int t.1, .int t.2])
theorem nodup_take {ns : List Int} (h : ns.Nodup) {i : Nat} {x : Int} (hx : ns[i]? = some x) : x ∉ ns.take i := by
  intro hm
  obtain ⟨j, hj, e⟩ := List.mem_iff_getElem.mp hm
  rw [List.length_take] at hj
  obtain ⟨hi, rfl⟩ := List.getElem?_eq_some_iff.mp hx
  rw [List.getElem_take] at e
  exact nodup_ne h (by omega) hi (by omega) e
def NearUp (H0 : Hp) (D : Addr) (ns : List Int) (f : Int → Addr) (H : Hp) : Prop := Same H0 H ∧ (∀ n ∈ ns, H (f n) = some (.lst []) ∧ H0 (f n) = none ∧ f n ≠ D) ∧ ∀ m ∈ ns, ∀ n ∈ ns, f m = f n → m = n
theorem NearUp.keep {H0 H H' : Hp} {D : Addr} {ns : List Int} {f : Int → Addr} (w : NearUp H0 D ns f H) (s : Same H H') : NearUp H0 D ns f H' := ⟨w.1.trans s, fun n hn => ⟨s _ _ (w.2.1 n hn).1, (w.2.1 n hn).2⟩, w.2.2⟩
theorem NearUp.put {H0 H : Hp} {D : Addr} {ns : List Int} {f : Int → Addr} {o : HO} (w : NearUp H0 D ns f H) (hD : H0 D = none) : NearUp H0 D ns f (upd H D o) :=
  ⟨fun b u e => by rw [upd_ne (ne_of_none e hD)]; exact w.1 _ _ e, fun n hn => ⟨by rw [upd_ne (w.2.1 n hn).2.2]; exact (w.2.1 n hn).1, (w.2.1 n hn).2⟩, w.2.2⟩
theorem NearUp.new {H0 H : Hp} {D l : Addr} {ns : List Int} {f : Int → Addr} {x : Int} (w : NearUp H0 D ns f H) (hx : x ∉ ns) (nl : H l = none) (hl : l ≠ D) : NearUp H0 D (ns ++ [x]) (fun n => if n = x then l else f n) (upd H l (.lst [])) := by
  have hf : ∀ n ∈ ns, (if n = x then l else f n) = f n := fun n hn => if_neg fun e => hx (by rw [← e]; exact hn)
  have hxl : (if x = x then l else f x) = l := if_pos rfl
  refine ⟨w.1.trans (same_upd nl), fun n hn => ?_, fun m hm n hn e => ?_⟩
  · rcases List.mem_append.mp hn with hn | hn
    · dsimp only
      rw [hf n hn]
      exact ⟨(same_upd nl) _ _ (w.2.1 n hn).1, (w.2.1 n hn).2⟩
    · rw [List.mem_singleton.mp hn]
      dsimp only
      rw [hxl]
      exact ⟨upd_same, w.1.free nl, hl⟩
  · have e : (if m = x then l else f m) = (if n = x then l else f n) := e
    have ne : ∀ n ∈ ns, f n ≠ l := fun n hn z => by
      have := (w.2.1 n hn).1
      rw [z, nl] at this; cases this
    rcases List.mem_append.mp hm with hm | hm <;> rcases List.mem_append.mp hn with hn | hn
    · rw [hf m hm, hf n hn] at e; exact w.2.2 m hm n hn e
    · rw [List.mem_singleton.mp hn, hf m hm, hxl] at e; exact absurd e (ne m hm)
    · rw [List.mem_singleton.mp hm, hf n hn, hxl] at e; exact absurd e.symm (ne n hn)
    · rw [List.mem_singleton.mp hm, List.mem_singleton.mp hn]
theorem NearUp.done {H0 H : Hp} {D d : Addr} {ns : List Int} {f : Int → Addr} (w : NearUp H0 D ns f H) (hd : H d = some (.dK (ns.map fun n => ((Sum.inl n : Key), V.ref (f n))))) : NearL f H d ns (nbr []) :=
  ⟨hd, fun n hn => (w.2.1 n hn).1, w.2.2⟩
theorem tie_push {H0 H : Hp} {d : Addr} {ns : List Int} {f : Int → Addr} {ts : List Tie} {t : Tie} (s : Same H0 H) (w : NearL f H d ns (nbr ts)) (h0 : ∀ n ∈ ns, H0 (f n) = none) (h1 : t.1 ∈ ns) (h2 : t.2 ∈ ns) (hne : t.1 ≠ t.2) :
    ∃ L1, NearL f (upd H (f t.1) (.lst ((nbr ts t.1).map V.int ++ [.int t.2]))) d ns L1 ∧ L1 t.2 = nbr ts t.2 ∧
      Same H0 (upd (upd H (f t.1) (.lst ((nbr ts t.1).map V.int ++ [.int t.2]))) (f t.2) (.lst ((nbr ts t.2).map V.int ++ [.int t.1]))) ∧
      NearL f (upd (upd H (f t.1) (.lst ((nbr ts t.1).map V.int ++ [.int t.2]))) (f t.2) (.lst ((nbr ts t.2).map V.int ++ [.int t.1]))) d ns (nbr (ts ++ [t])) := by
  have w1 := w.push (y := t.2) h1
  have e2 : (if t.2 = t.1 then nbr ts t.2 ++ [t.2] else nbr ts t.2) = nbr ts t.2 := if_neg (Ne.symm hne)
  have w2 := w1.push (y := t.1) h2
  rw [e2] at w2
  refine ⟨_, w1, e2, fun b o e => ?_, w2.congr fun n _ => nbr_push hne n⟩
  rw [upd_ne (ne_of_none e (h0 _ h2)), upd_ne (ne_of_none e (h0 _ h1))]
  exact s _ _ e
theorem near_turn {K : PySem.W.Frag} {D' : Ends} {i2 i3 i4 : Nat} {σ : L2.St} {H0 H : Hp} {d : Addr} {ns : List Int} {f : Int → Addr} {ts : List Tie} {t : Tie} (v2 : σ[i2]? = some (some (.ref d))) (v3 : σ[i3]? = some (some (.int t.1))) (v4 : σ[i4]? = some (some (.int t.2)))
    (s : Same H0 H) (w : NearL f H d ns (nbr ts)) (h0 : ∀ n ∈ ns, H0 (f n) = none) (h1 : t.1 ∈ ns) (h2 : t.2 ∈ ns) (hne : t.1 ≠ t.2) (hl : ts.length ≤ 100000) (fin : ∀ H', Same H0 H' → NearL f H' d ns (nbr (ts ++ [t])) → D'.nx σ H') :
    tSeq (tDrop (tBM K "list" rAppend (tDGet (tVar i2) (tVar i3)) (tCons (tVar i4) tNil))) (tDrop (tBM K "list" rAppend (tDGet (tVar i2) (tVar i4)) (tCons (tVar i3) tNil))) D' σ H := by
  obtain ⟨L1, w1, eL, s2, w2⟩ := tie_push s w h0 h1 h2 hne
  have q2 := w1.lst t.2 h2
  rw [eL] at q2
  have l1 := nbr_len ts t.1
  have l2 := nbr_len ts t.2
  refine rs_bm ⟨.ref d, v2, .int t.1, v3, d, .ref (f t.1), rfl, w.get h1, .inl ⟨rfl, _, sql_of (w.lst _ h1)⟩, .int t.2, v4, f t.1, _, _, rfl, rfl, w.lst _ h1, by rw [List.length_map, sizeLine_eq]; omega, ?_⟩
  exact ⟨.ref d, v2, .int t.2, v4, d, .ref (f t.2), rfl, w1.get h2, .inl ⟨rfl, _, sql_of q2⟩, .int t.1, v3, f t.2, _, _, rfl, rfl, q2, by rw [List.length_map, sizeLine_eq]; omega, fin _ s2 w2⟩
section
variable {P : Program} {w : World} {K : PySem.W.Frag} {mg : Str → Option Value} {base : Heap}
end
abbrev sTied : Stmt := topS 8
structure FineW (ns : List Int) (ts : List Tie) : Prop where
  nd : ns.Nodup
  few : ns.length ≤ 200
  tie : ∀ t ∈ ts, t.1 ∈ ns ∧ t.2 ∈ ns ∧ t.1 < t.2
  tfew : ts.length ≤ 100000
def spTied : Sp := fun vs H Q _ => ∃ (p tl : Addr) (ns : List Int) (ts : List Tie) (qs : List Addr), vs = [.ref p, .ref tl] ∧ FineW ns ts ∧ H p = some (.lst (ns.map V.int)) ∧ H tl = some (.tup (qs.map V.ref)) ∧ Paired (TieL H) qs ts ∧
  ∀ d f H', Same H H' → NearL f H' d ns (nbr ts) → H d = none → (∀ n ∈ ns, H (f n) = none) → Q (.ref d) H'
theorem putK_names {ns : List Int} {f : Int → Addr} {z : Int} {l : Addr} (h : z ∉ ns) : putK (ns.map fun n => ((Sum.inl n : Key), V.ref (f n))) (Sum.inl z) (V.ref l) = (ns ++ [z]).map fun n => ((Sum.inl n : Key), V.ref (if n = z then l else f n)) := by
  rw [putK_new _ (by rw [valV_names (g := fun n => V.ref (f n)), if_neg h]), List.map_append]
  congr 1
  · exact List.map_congr_left fun n hn => by rw [if_neg (fun e => h (by rw [← e]; exact hn))]
  · simp
section
variable {P : Program} {w : World} {K : PySem.W.Frag} {mg : Str → Option Value} {base : Heap}
theorem scTied : FnScope ["places", "ties", "tied", "one", "other", "place"] ["places", "ties"] (defScope sTied) := ⟨rfl, rfl, rfl, by decide +kernel, rfl, by decide +kernel, by decide +kernel⟩
theorem ok_tied {f : Addr} {fd : FuncData} {k : Nat} (F : Fun K "tied_by" "tied_by" sTied f fd) : FnOk P w K mg base CX0 (k + 1) f fd ["places", "ties"] spTied := by
  refine F.ok scTied (fun vs H Q E h => ?_) (fun cdv A outer s H vs Q E hr h => ?_)
  · obtain ⟨p, tl, ns, ts, qs, rfl, _⟩ := h
    rfl
  · obtain ⟨p, tl, ns, ts, qs, rfl, own, e1, e3, e4, q⟩ := h
    have hu := hu_of hr
    refine ⟨_, pss_cons (ps_setDc (i := 2) (own := [("place", 5)]) (g := gName 5) (tt := tYes) rfl scTied.nd rfl rfl (sw_dc rfl rfl rfl (by decide +kernel)) (pi_list (pv 0))
        (blkOk_by (N := ["places", "ties", "tied", "one", "other", "place"]) (sc := defScope sTied) (by decide +kernel)) (fun _ _ _ _ _ => pg_name (i := 5) scTied.nd rfl (Or.inl rfl)) (fun _ _ _ _ _ => pts_nil)
        (fun _ _ _ _ _ => pv 5) (fun _ _ _ _ _ => pe_lst pa_nil))
      (pss_cons (ps_for PassesOwn.never rfl (pi_tup (pv 1)) (pg_tup rfl (pgs_cons (pg_name (i := 3) scTied.nd rfl (Or.inl rfl)) (pgs_cons (pg_name (i := 4) scTied.nd rfl (Or.inl rfl)) pgs_nil)))
        (pss_cons (ps_expr (pe_bm PySem.F.plainAttrs_list PySem.F.slot_list_append PySem.F.type_list_append mt_append (pe_dget hu (pv 2) (pv 3) (fun _ _ => rfl)) (pa_cons (pv 4) pa_nil)))
        (pss_one (ps_expr (pe_bm PySem.F.plainAttrs_list PySem.F.slot_list_append PySem.F.type_list_append mt_append (pe_dget hu (pv 2) (pv 4) (fun _ _ => rfl)) (pa_cons (pv 3) pa_nil))))))
      (pss_one (ps_ret (pv 2)))), ?_⟩
    have l40 := own.few
    have l1000 := own.tfew
    have hnd := own.nd
    refine rs_set ?_
    refine ⟨.ref p, rfl, p, rfl, ⟨_, sql_of e1⟩, fun D nD => dct_it (walk_list (xs := ns.map V.int)) (fun i H' => ∃ f, NearUp H D (ns.take i) f H' ∧ H' D = some (.dK ((ns.take i).map fun n => ((Sum.inl n : Key), V.ref (f n)))))
      ⟨fun _ => 0, ⟨same_upd nD, (fun _ z => nomatch z), (fun _ z => nomatch z)⟩, upd_same⟩ (fun i H' _ ⟨f, w, _⟩ => sql_of (w.1 _ _ e1)) ?_ ?_⟩
    · rintro i x H'' H' hi ⟨f, w, eD⟩ ⟨rfl, hx⟩
      obtain ⟨z, hz, rfl⟩ := map_get hx
      have hzt := nodup_take hnd hz
      refine ⟨rfl, r_yes ?_⟩
      refine ⟨.int z, rfl, Nat.zero_le _, fun l nl => ?_⟩
      have hl : l ≠ D := fun e => by rw [e, eD] at nl; cases nl
      have w1 := w.new hzt nl hl
      refine ⟨_, Sum.inl z, rfl, (same_upd nl) _ _ eD, small1000 (by rw [List.length_map, List.length_take]; omega), fun n => if n = z then l else f n, by rw [take_snoc hz]; exact w1.put nD, ?_⟩
      rw [upd_same, take_snoc hz, putK_names hzt]
    · rintro H1 ⟨f, w, eD⟩
      rw [List.length_map, List.take_length] at w eD
      have nl0 := w.done eD
      have s0 := w.1
      have hf0 : ∀ n ∈ ns, H (f n) = none := fun n hn => (w.2.1 n hn).2.1
      refine rs_tup tl (qs.map V.ref) (fun Q1 q1 => ⟨_, rfl, q1⟩) (fun i σ' H' => ∃ o3 o4, σ' = [some (.ref p), some (.ref tl), some (.ref D), o3, o4, none] ∧ Same H H' ∧ NearL f H' D ns (nbr (ts.take i)))
        ⟨_, _, rfl, s0, nl0⟩ (fun i σ' H' _ ⟨o3, o4, _, sx, _⟩ => sqt_of (sx _ _ e3)) ?_ ?_
      · rintro i x σ2 H2 hx ⟨o3, o4, rfl, sx, nl⟩
        obtain ⟨q', hq', rfl⟩ := map_get hx
        obtain ⟨t, ht, et⟩ := Hw.paired_get e4 hq'
        obtain ⟨m1, m2, m3⟩ := own.tie t (List.mem_of_getElem? ht)
        refine ⟨q', [.int t.1, .int t.2], rfl, sqt_of (sx _ _ et), rfl, _, [.int t.2], rfl, _, [], rfl, rfl, ?_⟩
        refine near_turn (t := t) (ts := ts.take i) rfl rfl rfl sx nl hf0 m1 m2 (Int.ne_of_lt m3) (by rw [List.length_take]; omega) (fun H3 s3 n3 => ⟨_, _, rfl, s3, by rw [take_snoc ht]; exact n3⟩)
      · rintro σ2 H2 ⟨o3, o4, rfl, sx, nl⟩
        rw [List.length_map, Paired.length e4, List.take_length] at nl
        exact ⟨.ref D, rfl, q D f H2 sx nl nD hf0⟩
end
abbrev Far := List (Int × Nat)
def lookF (far : Far) (n : Int) : Nat := ((far.find? fun p => decide (p.1 = n)).map (·.2)).getD 0
def encF (far : Far) : List (Key × V) := far.map fun p => ((Sum.inl p.1 : Key), V.int (p.2 : Int))
theorem valV_far (far : Far) (n : Int) : valV (encF far) (Sum.inl n) = if n ∈ far.map (·.1) then some (.int (lookF far n : Nat)) else none := by
  induction far with
  | nil => exact valV_nil
  | cons p far ih =>
    show valV (((Sum.inl p.1 : Key), V.int (p.2 : Int)) :: encF far) _ = _
    by_cases h : p.1 = n
    · rw [valV_pos (congrArg Sum.inl h), if_pos (by rw [← h]; exact List.mem_cons_self)]
      show some (V.int _) = some (V.int _)
      unfold lookF
      rw [List.find?_cons_of_pos (by exact decide_eq_true h)]
      rfl
    · rw [valV_neg (fun e => h (Sum.inl.inj e)), ih]
      have e : lookF (p :: far) n = lookF far n := by
        unfold lookF
        rw [List.find?_cons_of_neg (by simpa using h)]
      rw [e, List.map_cons]
      by_cases hm : n ∈ far.map (·.1)
      · rw [if_pos hm, if_pos (List.mem_cons_of_mem _ hm)]
      · rw [if_neg hm, if_neg (fun z => by rcases List.mem_cons.mp z with z | z; exact h z.symm; exact hm z)]
def stepO (one : Int) (s : Far × List Int) (o : Int) : Far × List Int := if o ∈ s.1.map (·.1) then s else (s.1 ++ [(o, lookF s.1 one + 1)], s.2 ++ [o])
def stepE (nb : Int → List Int) (s : Far × List Int) (one : Int) : Far × List Int := (nb one).foldl (stepO one) s
def lvl (nb : Int → List Int) (s : Far × List Int) : Far × List Int := s.2.foldl (stepE nb) (s.1, [])
def lev (nb : Int → List Int) (p : Int) : Nat → Far × List Int
  | 0 => ([(p, 0)], [p])
  | i + 1 => lvl nb (lev nb p i)
structure FarOk (ns : List Int) (n0 : Nat) (s : Far × List Int) : Prop where
  nd : (s.1.map (·.1)).Nodup
  sub : ∀ n ∈ s.1.map (·.1), n ∈ ns
  bey : ∀ n ∈ s.2, n ∈ s.1.map (·.1)
  len : s.1.length = n0 + s.2.length
theorem FarOk.few {ns : List Int} {n0 : Nat} {s : Far × List Int} (f : FarOk ns n0 s) : s.1.length ≤ ns.length := by
  have := sub_len f.nd f.sub
  rw [List.length_map] at this
  exact this
theorem FarOk.stepO {ns : List Int} {n0 : Nat} {s : Far × List Int} (f : FarOk ns n0 s) {one o : Int} (ho : o ∈ ns) : FarOk ns n0 (stepO one s o) ∧ ∀ n ∈ s.1.map (·.1), n ∈ (HI.stepO one s o).1.map (·.1) := by
  unfold HI.stepO
  by_cases h : o ∈ s.1.map (·.1)
  · rw [if_pos h]; exact ⟨f, fun _ z => z⟩
  · rw [if_neg h]
    refine ⟨⟨?_, ?_, ?_, ?_⟩, ?_⟩
    · show ((s.1 ++ [(o, lookF s.1 one + 1)]).map (·.1)).Nodup
      rw [List.map_append, List.nodup_append]
      exact ⟨f.nd, by simp, fun x hx y hy e => h (by rw [List.mem_singleton.mp hy] at e; rw [show x = o from e] at hx; exact hx)⟩
    · intro n hn
      have hn : n ∈ (s.1 ++ [(o, lookF s.1 one + 1)]).map (·.1) := hn
      rw [List.map_append] at hn
      rcases List.mem_append.mp hn with hn | hn
      · exact f.sub n hn
      · rw [List.mem_singleton.mp hn]; exact ho
    · intro n hn
      show n ∈ (s.1 ++ [(o, lookF s.1 one + 1)]).map (·.1)
      rw [List.map_append]
      rcases List.mem_append.mp hn with hn | hn
      · exact List.mem_append_left _ (f.bey n hn)
      · exact List.mem_append_right _ (by rw [List.mem_singleton.mp hn]; exact List.mem_cons_self)
    · show (s.1 ++ [_]).length = n0 + (s.2 ++ [_]).length
      rw [List.length_append, List.length_append, f.len]; rfl
    · intro n hn
      show n ∈ (s.1 ++ [(o, lookF s.1 one + 1)]).map (·.1)
      rw [List.map_append]
      exact List.mem_append_left _ hn
theorem FarOk.foldO {ns : List Int} {n0 : Nat} {one : Int} : ∀ {os : List Int} {s : Far × List Int}, FarOk ns n0 s → (∀ o ∈ os, o ∈ ns) → FarOk ns n0 (os.foldl (HI.stepO one) s) ∧ ∀ n ∈ s.1.map (·.1), n ∈ (os.foldl (HI.stepO one) s).1.map (·.1)
  | [], _, f, _ => ⟨f, fun _ z => z⟩
  | o :: os, s, f, h => by
    obtain ⟨f1, k1⟩ := f.stepO (one := one) (h o List.mem_cons_self)
    obtain ⟨f2, k2⟩ := FarOk.foldO (one := one) f1 fun o ho => h o (List.mem_cons_of_mem _ ho)
    exact ⟨f2, fun n hn => k2 n (k1 n hn)⟩
theorem FarOk.foldE {ns : List Int} {n0 : Nat} {nb : Int → List Int} (hnb : ∀ n ∈ ns, ∀ o ∈ nb n, o ∈ ns) : ∀ {es : List Int} {s : Far × List Int}, FarOk ns n0 s → (∀ o ∈ es, o ∈ ns) → FarOk ns n0 (es.foldl (stepE nb) s) ∧ ∀ n ∈ s.1.map (·.1), n ∈ (es.foldl (stepE nb) s).1.map (·.1)
  | [], _, f, _ => ⟨f, fun _ z => z⟩
  | o :: os, s, f, h => by
    obtain ⟨f1, k1⟩ := f.foldO (one := o) (hnb o (h o List.mem_cons_self))
    obtain ⟨f2, k2⟩ := FarOk.foldE hnb f1 fun o ho => h o (List.mem_cons_of_mem _ ho)
    exact ⟨f2, fun n hn => k2 n (k1 n hn)⟩
theorem FarOk.lvl {ns : List Int} {n0 : Nat} {nb : Int → List Int} (hnb : ∀ n ∈ ns, ∀ o ∈ nb n, o ∈ ns) {s : Far × List Int} (f : FarOk ns n0 s) : FarOk ns s.1.length (lvl nb s) :=
  (FarOk.foldE hnb (s := (s.1, [])) ⟨f.nd, f.sub, (fun _ z => nomatch z), rfl⟩ fun o ho => f.sub o (f.bey o ho)).1
theorem lev_ok {ns : List Int} {nb : Int → List Int} (hnb : ∀ n ∈ ns, ∀ o ∈ nb n, o ∈ ns) {p : Int} (hp : p ∈ ns) : ∀ i, ∃ n0, FarOk ns n0 (lev nb p i)
  | 0 => ⟨0, by simp [lev], by simp [lev, hp], by simp [lev], by simp [lev]⟩
  | i + 1 => by
    obtain ⟨n0, f⟩ := lev_ok hnb hp i
    exact ⟨_, f.lvl hnb⟩
def muF (ns : List Int) (s : Far × List Int) : Nat := 2 * (ns.length - s.1.length) + (if s.2 = [] then 0 else 1)
theorem mu_lvl {ns : List Int} {n0 : Nat} {nb : Int → List Int} (hnb : ∀ n ∈ ns, ∀ o ∈ nb n, o ∈ ns) {s : Far × List Int} (f : FarOk ns n0 s) (hs : s.2 ≠ []) : muF ns (lvl nb s) < muF ns s := by
  have f1 := f.lvl hnb
  have l1 := f1.len
  have l2 := f1.few
  have l3 := f.few
  unfold muF
  rw [if_neg hs]
  by_cases h : (HI.lvl nb s).2 = []
  · rw [if_pos h]
    rw [h] at l1
    have : (HI.lvl nb s).1.length = s.1.length := l1
    omega
  · rw [if_neg h]
    have : 0 < (HI.lvl nb s).2.length := List.length_pos_iff.mpr h
    omega
def Bfs (nb : Int → List Int) (p : Int) (far : Far) : Prop := ∃ i, lev nb p i = (far, [])
theorem lev_stay {nb : Int → List Int} {p : Int} {far : Far} {i : Nat} (h : lev nb p i = (far, [])) : ∀ k, lev nb p (i + k) = (far, [])
  | 0 => h
  | k + 1 => by
    show lvl nb (lev nb p (i + k)) = _
    rw [lev_stay h k]; rfl
theorem Bfs.uniq {nb : Int → List Int} {p : Int} {far far' : Far} (h : Bfs nb p far) (h' : Bfs nb p far') : far = far' := by
  obtain ⟨i, h⟩ := h
  obtain ⟨j, h'⟩ := h'
  have a := lev_stay h j
  have b := lev_stay h' i
  rw [Nat.add_comm] at b
  rw [a] at b
  exact congrArg Prod.fst b
structure BfsH (H0 : Hp) (fd el bl : Addr) (s : Far × List Int) (edge : List Int) (H : Hp) : Prop where
  same : Same H0 H
  far : H fd = some (.dK (encF s.1))
  edge : H el = some (.lst (edge.map V.int))
  bey : H bl = some (.lst (s.2.map V.int))
  f0 : H0 fd = none
  b0 : H0 bl = none
  ne : el ≠ bl
def oneB (K : PySem.W.Frag) : TS := tIfS (tB (tDNotIn (tVar 6) (tVar 2))) (tSeq (sDPut (tVar 2) (tVar 6) (tOp (rI0 fun i j => V.int (i + j)) (tDGet (tVar 2) (tVar 5)) (tC (V.int 1)))) (tDrop (tBM K "list" rAppend (tVar 4) (tCons (tVar 6) tNil)))) tNext
def lapB (K : PySem.W.Frag) (te : TE) : TS := tSeq (tAsg (tLst tNil) (gName 4)) (tSeq (tFor (iList K (tVar 3)) (gName 5) (tFor (iList K te) (gName 6) (oneB K))) (tAsg (tVar 4) (gName 3)))
theorem bfs_one {K : PySem.W.Frag} {D : Ends} {s0 s1 : Option V} {H0 H : Hp} {fd el bl : Addr} {s : Far × List Int} {edge ns : List Int} {n0 : Nat} {one o : Int} (h : BfsH H0 fd el bl s edge H) (f : FarOk ns n0 s) (hl : ns.length ≤ 1000) (h1 : one ∈ s.1.map (·.1)) (ho : o ∈ ns)
    (fin : ∀ H', BfsH H0 fd el bl (stepO one s o) edge H' → D.nx [s0, s1, some (.ref fd), some (.ref el), some (.ref bl), some (.int one), some (.int o)] H') : oneB K D [s0, s1, some (.ref fd), some (.ref el), some (.ref bl), some (.int one), some (.int o)] H := by
  have few := f.few
  have len := f.len
  refine ⟨.int o, rfl, .ref fd, rfl, fd, _, rfl, DGet.k (k := Sum.inl o) h.far, _, rfl, ?_⟩
  rw [valV_far]
  by_cases hm : o ∈ s.1.map (·.1)
  · rw [if_pos hm]
    have := fin H (by unfold stepO; rw [if_pos hm]; exact h)
    exact this
  · rw [if_neg hm]
    have g1 : DGet H fd (.int one) (some (.int (lookF s.1 one : Nat))) := by
      have := DGet.k (k := Sum.inl one) h.far
      rw [valV_far, if_pos h1] at this
      exact this
    refine ⟨.ref fd, rfl, .int one, rfl, fd, _, rfl, g1, _, _, rfl, rfl, .ref fd, rfl, .int o, rfl, fd, _, rfl, DPut.k (k := Sum.inl o) h.far (by unfold encF; rw [List.length_map]; exact small1000 (by omega)), ?_⟩
    have hn : valV (encF s.1) (Sum.inl o) = none := by rw [valV_far, if_neg hm]
    rw [putK_new _ hn]
    have nfb : bl ≠ fd := ne_of h.bey h.far (fun z => nomatch z)
    have nef : el ≠ fd := ne_of h.edge h.far (fun z => nomatch z)
    refine ⟨.ref bl, rfl, .inl ⟨rfl, _, sql_of (by rw [upd_ne nfb]; exact h.bey)⟩, .int o, rfl, bl, _, _, rfl, rfl, by rw [upd_ne nfb]; exact h.bey, small1000 (by rw [List.length_map]; omega), fin _ ?_⟩
    unfold stepO
    rw [if_neg hm]
    refine ⟨fun b u e => ?_, ?_, ?_, ?_, h.f0, h.b0, h.ne⟩
    · rw [upd_ne (ne_of_none e h.b0), upd_ne (ne_of_none e h.f0)]
      exact h.same _ _ e
    · rw [upd_ne (Ne.symm nfb), upd_same]
      show some (HO.dK (encF s.1 ++ [_])) = some (HO.dK (encF (s.1 ++ [_])))
      unfold encF
      rw [List.map_append]
      rfl
    · rw [upd_ne h.ne, upd_ne nef]; exact h.edge
    · rw [upd_same]
      show _ = some (HO.lst ((s.2 ++ [o]).map V.int))
      rw [List.map_append]; rfl
theorem foldl_snoc {α β : Type} {g : β → α → β} {xs : List α} {i : Nat} {x : α} {b : β} (h : xs[i]? = some x) : (xs.take (i + 1)).foldl g b = g ((xs.take i).foldl g b) x := by
  rw [take_snoc h, List.foldl_append]; rfl
theorem bfs_all {K : PySem.W.Frag} {D : Ends} {te : TE} {s0 s1 o6 : Option V} {H0 H : Hp} {fd el bl : Addr} {s : Far × List Int} {edge ns : List Int} {nb : Int → List Int} {n0 : Nat} {one : Int} {a : Addr} (h : BfsH H0 fd el bl s edge H) (f : FarOk ns n0 s) (hl : ns.length ≤ 1000) (h1 : one ∈ s.1.map (·.1)) (hnb : ∀ o ∈ nb one, o ∈ ns)
    (ha : H0 a = some (.lst ((nb one).map V.int))) (hte : ∀ Q : VK, Q (.ref a) H → te [s0, s1, some (.ref fd), some (.ref el), some (.ref bl), some (.int one), o6] H Q)
    (fin : ∀ H' o6', BfsH H0 fd el bl (stepE nb s one) edge H' → D.nx [s0, s1, some (.ref fd), some (.ref el), some (.ref bl), some (.int one), o6'] H') : tFor (iList K te) (gName 6) (oneB K) D [s0, s1, some (.ref fd), some (.ref el), some (.ref bl), some (.int one), o6] H := by
  refine hte _ ⟨a, rfl, ⟨_, sql_of (h.same _ _ ha)⟩, for_list (xs := (nb one).map V.int) (fun i σ' H' => ∃ o6', σ' = [s0, s1, some (.ref fd), some (.ref el), some (.ref bl), some (.int one), o6'] ∧ BfsH H0 fd el bl (((nb one).take i).foldl (stepO one) s) edge H') ⟨_, rfl, h⟩ (fun i σ' H' _ ⟨_, _, w⟩ => sql_of (w.same _ _ ha)) ?_ ?_⟩
  · rintro i x σ' H' hx ⟨o6', rfl, w⟩
    obtain ⟨o, ho, rfl⟩ := map_get hx
    obtain ⟨fi, ki⟩ := f.foldO (one := one) (os := (nb one).take i) fun o ho => hnb o (List.mem_of_mem_take ho)
    exact bfs_one w fi hl (ki _ h1) (hnb o (List.mem_of_getElem? ho)) fun H'' w' => ⟨_, rfl, by rw [foldl_snoc ho]; exact w'⟩
  · rintro σ' H' ⟨o6', rfl, w⟩
    rw [List.length_map, List.take_length] at w
    exact fin H' o6' w
theorem bfs_lap {K : PySem.W.Frag} {D : Ends} {te : TE} {s0 s1 o4 o5 o6 : Option V} {H0 H : Hp} {fd el : Addr} {s : Far × List Int} {ns : List Int} {nb : Int → List Int} {n0 : Nat} {fa : Int → Addr} (e1 : Same H0 H) (e2 : H fd = some (.dK (encF s.1))) (e3 : H el = some (.lst (s.2.map V.int))) (f0 : H0 fd = none) (f : FarOk ns n0 s) (hl : ns.length ≤ 1000) (hnb : ∀ n ∈ ns, ∀ o ∈ nb n, o ∈ ns)
    (ha : ∀ n ∈ ns, H0 (fa n) = some (.lst ((nb n).map V.int))) (hte : ∀ n ∈ ns, ∀ (bl : Addr) (o6 : Option V) (H' : Hp) (Q : VK), Same H0 H' → Q (.ref (fa n)) H' → te [s0, s1, some (.ref fd), some (.ref el), some (.ref bl), some (.int n), o6] H' Q)
    (fin : ∀ H' bl o5' o6', Same H0 H' → H' fd = some (.dK (encF (lvl nb s).1)) → H' bl = some (.lst ((lvl nb s).2.map V.int)) → D.nx [s0, s1, some (.ref fd), some (.ref bl), some (.ref bl), o5', o6'] H') : lapB K te D [s0, s1, some (.ref fd), some (.ref el), o4, o5, o6] H := by
  refine rs_set ⟨Nat.zero_le _, fun bl nbl => ?_⟩
  have nel : el ≠ bl := ne_of_none e3 nbl
  have w0 : BfsH H0 fd el bl (s.1, []) s.2 (upd H bl (.lst [])) := ⟨e1.trans (same_upd nbl), (same_upd nbl) _ _ e2, (same_upd nbl) _ _ e3, upd_same, f0, e1.free nbl, nel⟩
  have f1 : FarOk ns s.1.length (s.1, []) := ⟨f.nd, f.sub, (fun _ z => nomatch z), rfl⟩
  refine rs_list el (s.2.map V.int) (fun Q q => ⟨_, rfl, q⟩) (fun i σ' H' => ∃ o5' o6', σ' = [s0, s1, some (.ref fd), some (.ref el), some (.ref bl), o5', o6'] ∧ BfsH H0 fd el bl ((s.2.take i).foldl (stepE nb) (s.1, [])) s.2 H') ⟨_, _, rfl, w0⟩ (fun i σ' H' _ ⟨_, _, _, w⟩ => sql_of w.edge) ?_ ?_
  · rintro i x σ' H' hx ⟨o5', o6', rfl, w⟩
    obtain ⟨one, ho, rfl⟩ := map_get hx
    have h1 := f.bey one (List.mem_of_getElem? ho)
    have hin := f.sub one h1
    obtain ⟨fi, ki⟩ := f1.foldE hnb (es := s.2.take i) fun o ho => f.sub o (f.bey o (List.mem_of_mem_take ho))
    refine r_gname ?_
    exact bfs_all w fi hl (ki _ h1) (hnb one hin) (ha one hin) (fun Q q => hte one hin bl o6' H' Q w.same q) fun H'' o6'' w' => ⟨_, _, rfl, by rw [foldl_snoc ho]; exact w'⟩
  · rintro σ' H' ⟨o5', o6', rfl, w⟩
    rw [List.length_map, List.take_length] at w
    exact ⟨.ref bl, rfl, fin H' bl o5' o6' w.same w.far w.bey⟩
def spFars : Sp := fun vs H Q _ => ∃ (d : Addr) (p : Int) (f : Int → Addr) (ns : List Int) (ts : List Tie), vs = [.ref d, .int p] ∧ NearL f H d ns (nbr ts) ∧ p ∈ ns ∧ ns.length ≤ 1000 ∧ (∀ n ∈ ns, ∀ o ∈ nbr ts n, o ∈ ns) ∧
  ∀ far fd H', Bfs (nbr ts) p far → (∃ n0, FarOk ns n0 (far, [])) → Same H H' → H' fd = some (.dK (encF far)) → H fd = none → Q (.ref fd) H'
theorem rs_whileM {c : TT} {tb u : TS} {D : Ends} {σ : L2.St} {H : Hp} (Pv : Nat → L2.St → Hp → Prop) (m0 : Nat) (h0 : Pv m0 σ H)
    (hs : ∀ m σ H, Pv m σ H → ∃ b : Bool, (∀ Q : Bool → Hp → Prop, (∀ H', Same H H' → Q b H') → c σ H Q) ∧ (b = true → ∀ H', Same H H' → ∀ D' : Ends, (∀ σ'' H'', (∃ m', m' < m ∧ Pv m' σ'' H'') → D'.nx σ'' H'') → tb D' σ H') ∧ (b = false → ∀ H', Same H H' → u D σ H')) :
    tSeq (tWhile c tb) u D σ H := by
  refine ⟨Pv, ⟨m0, h0⟩, fun m σ H p => ?_⟩
  obtain ⟨b, hc, h1, h2⟩ := hs m σ H p
  refine hc _ fun H' s' => ?_
  cases b with
  | true => exact ⟨fun σ'' H'' => ∃ m', m' < m ∧ Pv m' σ'' H'', fun σ' H' ⟨m', l, p'⟩ => ⟨m', l, p'⟩, h1 rfl H' s' _ fun σ'' H'' z => z⟩
  | false => exact h2 rfl H' s'
def LevAt (H0 : Hp) (s0 s1 : Option V) (fd : Addr) (ns : List Int) (nb : Int → List Int) (p : Int) (m : Nat) (σ : L2.St) (H : Hp) : Prop := ∃ i el o4 o5 o6, σ = [s0, s1, some (.ref fd), some (.ref el), o4, o5, o6] ∧ Same H0 H ∧ H fd = some (.dK (encF (lev nb p i).1)) ∧ H el = some (.lst ((lev nb p i).2.map V.int)) ∧ m = muF ns (lev nb p i)
theorem bfs_way {K : PySem.W.Frag} {c : TT} {u : TS} {D : Ends} {te : TE} {s0 s1 o4 o5 o6 : Option V} {H0 H : Hp} {fd el : Addr} {p : Int} {ns : List Int} {nb : Int → List Int} {fa : Int → Addr} (e1 : Same H0 H) (e2 : H fd = some (.dK (encF [(p, 0)]))) (e3 : H el = some (.lst [.int p])) (f0 : H0 fd = none) (hp : p ∈ ns) (hl : ns.length ≤ 1000) (hnb : ∀ n ∈ ns, ∀ o ∈ nb n, o ∈ ns)
    (ha : ∀ n ∈ ns, H0 (fa n) = some (.lst ((nb n).map V.int))) (hte : ∀ n ∈ ns, ∀ (el bl : Addr) (o6 : Option V) (H' : Hp) (Q : VK), Same H0 H' → Q (.ref (fa n)) H' → te [s0, s1, some (.ref fd), some (.ref el), some (.ref bl), some (.int n), o6] H' Q)
    (hc : ∀ (el : Addr) (xs : List Int) (σ : L2.St) (H' : Hp) (Q : Bool → Hp → Prop), σ[3]? = some (some (.ref el)) → H' el = some (.lst (xs.map V.int)) → (∀ x ∈ xs, x ∈ ns) → (∀ H'', Same H' H'' → Q (!xs.isEmpty) H'') → c σ H' Q)
    (fin : ∀ far H' σ', σ'[2]? = some (some (.ref fd)) → Bfs nb p far → (∃ n0, FarOk ns n0 (far, [])) → Same H0 H' → H' fd = some (.dK (encF far)) → u D σ' H') : tSeq (tWhile c (lapB K te)) u D [s0, s1, some (.ref fd), some (.ref el), o4, o5, o6] H := by
  refine rs_whileM (LevAt H0 s0 s1 fd ns nb p) _ ⟨0, el, _, _, _, rfl, e1, e2, e3, rfl⟩ ?_
  rintro m σ H1 ⟨i, el1, o4', o5', o6', rfl, sx, efd, eel, rfl⟩
  obtain ⟨n0, f⟩ := lev_ok hnb hp i
  refine ⟨!(lev nb p i).2.isEmpty, fun Q q => hc el1 _ _ H1 Q rfl eel (fun x hx => f.sub x (f.bey x hx)) q, fun hb H2 s2 D' hD => ?_, fun hb H2 s2 => ?_⟩
  · have hne : (lev nb p i).2 ≠ [] := fun e => by rw [e] at hb; cases hb
    refine bfs_lap (fa := fa) (sx.trans s2) (s2 _ _ efd) (s2 _ _ eel) f0 f hl hnb ha (fun n hn bl o6'' H' Q s' q' => hte n hn el1 bl o6'' H' Q s' q') fun H' bl o5'' o6'' s' e' b' => hD _ _ ⟨_, mu_lvl hnb f hne, i + 1, bl, _, _, _, rfl, s', e', b', rfl⟩
  · have he : (lev nb p i).2 = [] := by
      cases h : (lev nb p i).2 with
      | nil => rfl
      | cons x xs => rw [h] at hb; cases hb
    have hb' : lev nb p i = ((lev nb p i).1, []) := Prod.ext rfl he
    exact fin _ _ _ rfl ⟨i, hb'⟩ ⟨n0, by rw [hb'] at f; exact f⟩ (sx.trans s2) (s2 _ _ efd)
theorem strs_dp {K : PySem.W.Frag} {H : Hp} : ∀ xs : List Int, DpAll K H (xs.map V.int) (xs.map PyData.int)
  | [] => .nil
  | x :: xs => .cons (.int x) (strs_dp xs)
section
variable {P : Program} {w : World} {K : PySem.W.Frag} {mg : Str → Option Value} {base : Heap}
end
abbrev sAlong : Stmt := topS 9
def FullF (ns : List Int) (s : Far × List Int) : Prop := ∀ n ∈ ns, n ∈ s.1.map (·.1)
theorem full_of {ns : List Int} {n0 : Nat} {s : Far × List Int} (f : FarOk ns n0 s) (e : s.1.length = ns.length) : FullF ns s := by
  intro n hn
  by_cases h : n ∈ s.1.map (·.1)
  · exact h
  · exfalso
    have := sub_len (l := n :: s.1.map (·.1)) (m := ns) (List.nodup_cons.mpr ⟨h, f.nd⟩) (fun z hz => by
      rcases List.mem_cons.mp hz with hz | hz
      · rw [hz]; exact hn
      · exact f.sub z hz)
    rw [List.length_cons, List.length_map] at this
    omega
theorem FullF.stepO {ns : List Int} {s : Far × List Int} (f : FullF ns s) {one o : Int} (ho : o ∈ ns) : HI.stepO one s o = s := by
  unfold HI.stepO
  rw [if_pos (f o ho)]
theorem FullF.foldO {ns : List Int} {one : Int} : ∀ {os : List Int} {s : Far × List Int}, FullF ns s → (∀ o ∈ os, o ∈ ns) → os.foldl (HI.stepO one) s = s
  | [], _, _, _ => rfl
  | o :: os, s, f, h => by
    rw [List.foldl_cons, f.stepO (h o List.mem_cons_self)]
    exact FullF.foldO f fun o ho => h o (List.mem_cons_of_mem _ ho)
theorem FullF.foldE {ns : List Int} {nb : Int → List Int} (hnb : ∀ n ∈ ns, ∀ o ∈ nb n, o ∈ ns) : ∀ {es : List Int} {s : Far × List Int}, FullF ns s → (∀ o ∈ es, o ∈ ns) → es.foldl (stepE nb) s = s
  | [], _, _, _ => rfl
  | o :: os, s, f, h => by
    rw [List.foldl_cons, show stepE nb s o = s from f.foldO (hnb o (h o List.mem_cons_self))]
    exact FullF.foldE hnb f fun o ho => h o (List.mem_cons_of_mem _ ho)
theorem full_bfs {ns : List Int} {nb : Int → List Int} (hnb : ∀ n ∈ ns, ∀ o ∈ nb n, o ∈ ns) {p : Int} (hp : p ∈ ns) {k i : Nat} {s : Far × List Int} (e : s = ((lev nb p k).2.take i).foldl (stepE nb) ((lev nb p k).1, [])) (f : FullF ns s) : Bfs nb p s.1 ∧ ∃ n0, FarOk ns n0 (s.1, []) := by
  obtain ⟨n0, f0⟩ := lev_ok hnb hp k
  have h1 : lev nb p (k + 1) = s := by
    show (lev nb p k).2.foldl (stepE nb) ((lev nb p k).1, []) = s
    rw [← List.take_append_drop i (lev nb p k).2, List.foldl_append, ← e]
    exact f.foldE hnb fun o ho => f0.sub o (f0.bey o (List.mem_of_mem_drop ho))
  obtain ⟨n1, f1⟩ := lev_ok hnb hp (k + 1)
  have h2 : lev nb p (k + 1 + 1) = (s.1, []) := by
    show lvl nb (lev nb p (k + 1)) = _
    rw [h1]
    rw [h1] at f1
    have ff : FullF ns (s.1, []) := f
    exact ff.foldE hnb fun o ho => f1.sub o (f1.bey o ho)
  obtain ⟨n2, f2⟩ := lev_ok hnb hp (k + 1 + 1)
  rw [h2] at f2
  exact ⟨⟨_, h2⟩, n2, f2⟩
theorem rs_whileR {c : TT} {tb u : TS} {D : Ends} {σ : L2.St} {H : Hp} (Pv : Nat → L2.St → Hp → Prop) (m0 : Nat) (h0 : Pv m0 σ H)
    (hs : ∀ m σ H, Pv m σ H → ∃ b : Bool, (∀ Q : Bool → Hp → Prop, (∀ H', Same H H' → Q b H') → c σ H Q) ∧ (b = true → ∀ H', Same H H' → ∀ D' : Ends, D'.rt = D.rt → (∀ σ'' H'', (∃ m', m' < m ∧ Pv m' σ'' H'') → D'.nx σ'' H'') → tb D' σ H') ∧ (b = false → ∀ H', Same H H' → u D σ H')) :
    tSeq (tWhile c tb) u D σ H := by
  refine ⟨Pv, ⟨m0, h0⟩, fun m σ H p => ?_⟩
  obtain ⟨b, hc, h1, h2⟩ := hs m σ H p
  refine hc _ fun H' s' => ?_
  cases b with
  | true => exact ⟨fun σ'' H'' => ∃ m', m' < m ∧ Pv m' σ'' H'', fun σ' H' ⟨m', l, p'⟩ => ⟨m', l, p'⟩, h1 rfl H' s' _ rfl fun σ'' H'' z => z⟩
  | false => exact h2 rfl H' s'
def lapC (K : PySem.W.Frag) (tc : TT) (te : TE) : TS := tSeq (tAsg (tLst tNil) (gName 4)) (tSeq (tFor (iList K (tVar 3)) (gName 5) (tSeq (tIfS tc (tRet (tVar 2)) tNext) (tFor (iList K te) (gName 6) (oneB K)))) (tAsg (tVar 4) (gName 3)))
theorem along_lap {K : PySem.W.Frag} {D : Ends} {tc : TT} {te : TE} {s0 s1 o4 o5 o6 : Option V} {H0 H : Hp} {fd el : Addr} {p : Int} {k : Nat} {ns : List Int} {nb : Int → List Int} {n0 : Nat} {fa : Int → Addr} (e1 : Same H0 H) (e2 : H fd = some (.dK (encF (lev nb p k).1))) (e3 : H el = some (.lst ((lev nb p k).2.map V.int))) (f0 : H0 fd = none) (f : FarOk ns n0 (lev nb p k)) (hp : p ∈ ns) (hl : ns.length ≤ 1000) (hnb : ∀ n ∈ ns, ∀ o ∈ nb n, o ∈ ns)
    (ha : ∀ n ∈ ns, H0 (fa n) = some (.lst ((nb n).map V.int))) (hte : ∀ n ∈ ns, ∀ (bl : Addr) (o6 : Option V) (H' : Hp) (Q : VK), Same H0 H' → Q (.ref (fa n)) H' → te [s0, s1, some (.ref fd), some (.ref el), some (.ref bl), some (.int n), o6] H' Q)
    (htc : ∀ (far : Far) (o3 o4 o5 o6 : Option V) (H' : Hp) (Q : Bool → Hp → Prop), Same H0 H' → H' fd = some (.dK (encF far)) → Q (decide (far.length = ns.length)) H' → tc [s0, s1, some (.ref fd), o3, o4, o5, o6] H' Q)
    (ret : ∀ far H', Bfs nb p far → (∃ n0, FarOk ns n0 (far, [])) → Same H0 H' → H' fd = some (.dK (encF far)) → D.rt (.ref fd) H')
    (fin : ∀ H' bl o5' o6', Same H0 H' → H' fd = some (.dK (encF (lev nb p (k + 1)).1)) → H' bl = some (.lst ((lev nb p (k + 1)).2.map V.int)) → D.nx [s0, s1, some (.ref fd), some (.ref bl), some (.ref bl), o5', o6'] H') : lapC K tc te D [s0, s1, some (.ref fd), some (.ref el), o4, o5, o6] H := by
  refine rs_set ⟨Nat.zero_le _, fun bl nbl => ?_⟩
  have nel : el ≠ bl := ne_of_none e3 nbl
  have w0 : BfsH H0 fd el bl ((lev nb p k).1, []) (lev nb p k).2 (upd H bl (.lst [])) := ⟨e1.trans (same_upd nbl), (same_upd nbl) _ _ e2, (same_upd nbl) _ _ e3, upd_same, f0, e1.free nbl, nel⟩
  have f1 : FarOk ns (lev nb p k).1.length ((lev nb p k).1, []) := ⟨f.nd, f.sub, (fun _ z => nomatch z), rfl⟩
  refine rs_list el ((lev nb p k).2.map V.int) (fun Q q => ⟨_, rfl, q⟩) (fun i σ' H' => ∃ o5' o6', σ' = [s0, s1, some (.ref fd), some (.ref el), some (.ref bl), o5', o6'] ∧ BfsH H0 fd el bl (((lev nb p k).2.take i).foldl (stepE nb) ((lev nb p k).1, [])) (lev nb p k).2 H') ⟨_, _, rfl, w0⟩ (fun i σ' H' _ ⟨_, _, _, w⟩ => sql_of w.edge) ?_ ?_
  · rintro i x σ' H' hx ⟨o5', o6', rfl, w⟩
    obtain ⟨one, ho, rfl⟩ := map_get hx
    have h1 := f.bey one (List.mem_of_getElem? ho)
    have hin := f.sub one h1
    obtain ⟨fi, ki⟩ := f1.foldE hnb (es := (lev nb p k).2.take i) fun o ho => f.sub o (f.bey o (List.mem_of_mem_take ho))
    refine r_gname ?_
    refine htc _ _ _ _ _ H' _ w.same w.far ?_
    show if decide _ = true then _ else _
    by_cases hf : (((lev nb p k).2.take i).foldl (stepE nb) ((lev nb p k).1, [])).1.length = ns.length
    · rw [if_pos (decide_eq_true hf)]
      obtain ⟨b, n2, g⟩ := full_bfs hnb hp rfl (full_of fi hf)
      exact ⟨.ref fd, rfl, ret _ H' b ⟨n2, g⟩ w.same w.far⟩
    · rw [if_neg (by simpa using hf)]
      exact bfs_all w fi hl (ki _ h1) (hnb one hin) (ha one hin) (fun Q q => hte one hin bl o6' H' Q w.same q) fun H'' o6'' w' => ⟨_, _, rfl, by rw [foldl_snoc ho]; exact w'⟩
  · rintro σ' H' ⟨o5', o6', rfl, w⟩
    rw [List.length_map, List.take_length] at w
    exact ⟨.ref bl, rfl, fin H' bl o5' o6' w.same w.far w.bey⟩
theorem along_way {K : PySem.W.Frag} {c : TT} {u : TS} {D : Ends} {tc : TT} {te : TE} {s0 s1 o4 o5 o6 : Option V} {H0 H : Hp} {fd el : Addr} {p : Int} {ns : List Int} {nb : Int → List Int} {fa : Int → Addr} (e1 : Same H0 H) (e2 : H fd = some (.dK (encF [(p, 0)]))) (e3 : H el = some (.lst [.int p])) (f0 : H0 fd = none) (hp : p ∈ ns) (hl : ns.length ≤ 1000) (hnb : ∀ n ∈ ns, ∀ o ∈ nb n, o ∈ ns)
    (ha : ∀ n ∈ ns, H0 (fa n) = some (.lst ((nb n).map V.int))) (hte : ∀ n ∈ ns, ∀ (el bl : Addr) (o6 : Option V) (H' : Hp) (Q : VK), Same H0 H' → Q (.ref (fa n)) H' → te [s0, s1, some (.ref fd), some (.ref el), some (.ref bl), some (.int n), o6] H' Q)
    (htc : ∀ (far : Far) (o3 o4 o5 o6 : Option V) (H' : Hp) (Q : Bool → Hp → Prop), Same H0 H' → H' fd = some (.dK (encF far)) → Q (decide (far.length = ns.length)) H' → tc [s0, s1, some (.ref fd), o3, o4, o5, o6] H' Q)
    (hc : ∀ (el : Addr) (xs : List Int) (σ : L2.St) (H' : Hp) (Q : Bool → Hp → Prop), σ[3]? = some (some (.ref el)) → H' el = some (.lst (xs.map V.int)) → (∀ x ∈ xs, x ∈ ns) → (∀ H'', Same H' H'' → Q (!xs.isEmpty) H'') → c σ H' Q)
    (ret : ∀ far H', Bfs nb p far → (∃ n0, FarOk ns n0 (far, [])) → Same H0 H' → H' fd = some (.dK (encF far)) → D.rt (.ref fd) H')
    (fin : ∀ far H' σ', σ'[2]? = some (some (.ref fd)) → Bfs nb p far → (∃ n0, FarOk ns n0 (far, [])) → Same H0 H' → H' fd = some (.dK (encF far)) → u D σ' H') : tSeq (tWhile c (lapC K tc te)) u D [s0, s1, some (.ref fd), some (.ref el), o4, o5, o6] H := by
  refine rs_whileR (LevAt H0 s0 s1 fd ns nb p) _ ⟨0, el, _, _, _, rfl, e1, e2, e3, rfl⟩ ?_
  rintro m σ H1 ⟨i, el1, o4', o5', o6', rfl, sx, efd, eel, rfl⟩
  obtain ⟨n0, f⟩ := lev_ok hnb hp i
  refine ⟨!(lev nb p i).2.isEmpty, fun Q q => hc el1 _ _ H1 Q rfl eel (fun x hx => f.sub x (f.bey x hx)) q, fun hb H2 s2 D' hr hD => ?_, fun hb H2 s2 => ?_⟩
  · have hne : (lev nb p i).2 ≠ [] := fun e => by rw [e] at hb; cases hb
    refine along_lap (fa := fa) (sx.trans s2) (s2 _ _ efd) (s2 _ _ eel) f0 f hp hl hnb ha (fun n hn bl o6'' H' Q s' q' => hte n hn el1 bl o6'' H' Q s' q') htc (fun far H' b g s' e' => by rw [hr]; exact ret far H' b g s' e') fun H' bl o5'' o6'' s' e' b' => hD _ _ ⟨_, mu_lvl hnb f hne, i + 1, bl, _, _, _, rfl, s', e', b', rfl⟩
  · have he : (lev nb p i).2 = [] := by
      cases h : (lev nb p i).2 with
      | nil => rfl
      | cons x xs => rw [h] at hb; cases hb
    have hb' : lev nb p i = ((lev nb p i).1, []) := Prod.ext rfl he
    exact fin _ _ _ rfl ⟨i, hb'⟩ ⟨n0, by rw [hb'] at f; exact f⟩ (sx.trans s2) (s2 _ _ efd)
section
variable {P : Program} {w : World} {K : PySem.W.Frag} {mg : Str → Option Value} {base : Heap}
theorem scAlong : FnScope ["tied", "place", "far", "edge", "beyond", "one", "other"] ["tied", "place"] (defScope sAlong) := ⟨rfl, rfl, rfl, by decide +kernel, rfl, by decide +kernel, by decide +kernel⟩
theorem ok_along {f : Addr} {fd : FuncData} {k : Nat} (F : Fun K "far_along" "far_along" sAlong f fd) (B : Blt mg) : FnOk P w K mg base CX0 (k + 1) f fd ["tied", "place"] spFars := by
  refine F.ok scAlong (fun vs H Q E h => ?_) (fun cdv A outer s H vs Q E hr h => ?_)
  · obtain ⟨d, p, f, ns, ts, rfl, _⟩ := h
    rfl
  · obtain ⟨d, p, f, ns, ts, rfl, nl, hp, hl, hnb, q⟩ := h
    have hu := hu_of hr
    have hu64 := hr.units
    refine ⟨_, pss_cons (ps_set (i := 2) scAlong.nd rfl (.inl rfl) (pe_disp (pps_cons (pv 1) pe_int pps_nil) (by rfl) (by rfl) (fun z => by cases z) (by decide)))
      (pss_cons (ps_set (i := 3) scAlong.nd rfl (.inl rfl) (pe_lst (pa_cons (pv 1) pa_nil)))
      (pss_cons (ps_while PassesOwn.never (pt_truth (pv 3) (by intro _; rfl))
        (pss_cons (ps_set (i := 4) scAlong.nd rfl (.inl rfl) (pe_lst pa_nil))
        (pss_cons (ps_for PassesOwn.never rfl (pi_list (pv 3)) (pg_name (i := 5) scAlong.nd rfl (.inl rfl))
          (pss_cons (ps_if (pt_cmpR op_eq (pe_callB call_lenD (by rfl) B.len PySem.boot_len (pa_cons (pv 2) pa_nil)) (pe_callB call_lenD (by rfl) B.len PySem.boot_len (pa_cons (pv 0) pa_nil)) (nomark _)) (pss_one (ps_ret (pv 2))) pss_nil)
          (pss_one (ps_for PassesOwn.never rfl (pi_list (pe_dget hu (pv 0) (pv 5) (fun _ _ => rfl))) (pg_name (i := 6) scAlong.nd rfl (.inl rfl))
            (pss_one (ps_if (pt_cmp (pc_dnotin hu (pv 6) (pv 2)))
              (pss_cons (ps_dput hu (pv 2) (pv 6) (pe_op op_add (pe_dget hu (pv 2) (pv 5) (fun _ _ => rfl)) pe_int) rfl)
              (pss_one (ps_expr (pe_bm PySem.F.plainAttrs_list PySem.F.slot_list_append PySem.F.type_list_append mt_append (pv 4) (pa_cons (pv 6) pa_nil))))) pss_nil))))))
        (pss_one (ps_set (i := 3) scAlong.nd rfl (.inl rfl) (pv 4))))))
      (pss_one (ps_ret (pv 2))))), ?_⟩
    refine rs_set ?_
    intro fd' nfd
    refine ⟨.int p, rfl, upd_same, [(Sum.inl p, .int 0)], rfl, by show 1 ≤ 15; decide, ?_⟩
    have sf : Same H (upd (upd H fd' (.dK [])) fd' (.dK (mergeK [] [((Sum.inl p : Key), V.int 0)]))) := fun b o e => by
      have hb := ne_of_none e nfd
      rw [upd_ne hb, upd_ne hb]; exact e
    have ef : (upd (upd H fd' (.dK [])) fd' (.dK (mergeK [] [((Sum.inl p : Key), V.int 0)]))) fd' = some (.dK (encF [(p, 0)])) := upd_same
    generalize (upd (upd H fd' (.dK [])) fd' (.dK (mergeK [] [((Sum.inl p : Key), V.int 0)]))) = H1 at sf ef ⊢
    refine rs_set ?_
    refine ⟨.int p, rfl, by show 1 ≤ sizeLine; decide, fun el nel => ?_⟩
    refine along_way (fa := f) (sf.trans (same_upd nel)) ((same_upd nel) _ _ ef) upd_same nfd hp hl hnb nl.lst (fun n hn el' bl o6 H' Q s' q' => ⟨.ref d, rfl, .int n, rfl, d, .ref (f n), rfl, (nl.keep s').get hn, q'⟩) (fun far o3 o4 o5 o6 H' Q s' e q' => ?_) (fun el' xs σ' H' Q hσ e hx q' => ?_) (fun far H' b hf s' e => q far fd' H' b hf s' e nfd) (fun far H' σ' hσ b hf s' e => ⟨.ref fd', hσ, q far fd' H' b hf s' e nfd⟩)
    · refine ⟨.ref fd', rfl, fd', _, rfl, e, .ref d, rfl, d, _, rfl, s' _ _ nl.dict, ?_⟩
      have eb : decide (V.int ((encF far).length : Nat) = V.int ((ns.map fun n => ((Sum.inl n : Key), V.ref (f n))).length : Nat)) = decide (far.length = ns.length) := by
        rw [List.length_map]
        unfold encF
        rw [List.length_map]
        rw [decide_eq_decide]
        constructor
        · intro e
          injection e with e
          omega
        · intro e
          rw [e]
      exact ⟨rfl, _, rfl, by rw [← eb] at q'; exact q'⟩
    · refine ⟨.ref el', hσ, _, .inl ⟨_, sql_of e, rfl⟩, ?_⟩
      have eb : (xs.map V.int).isEmpty = xs.isEmpty := by cases xs <;> rfl
      rw [eb]
      exact q' _ (Same.refl _)
end
end HI

set_option Elab.async false
set_option linter.all false
set_option maxRecDepth 100000
set_option maxHeartbeats 4000000
namespace HI
open PySem L2 PyProof.Rows Hw
/-- the one to whom a place is tied in the low tree: its room's number i -/
def par (d i : Nat) : Nat := if i < d then 0 else (i - d) / (d - 1) + 1
def tiesL (d n : Nat) : List Tie := (List.range (n - 1)).map fun i => (((par d i : Nat) : Int), ((i + 1 : Nat) : Int))
def ltPr (a b : Nat × Int) : Bool := decide (a.1 < b.1) || (decide (a.1 = b.1) && decide (a.2 < b.2))
def maxPr (x : Nat × Int) (xs : List (Nat × Int)) : Nat × Int := xs.foldl (fun a y => if ltPr a y then y else a) x
def lastR (ts : List Tie) (n : Nat) (p : Int) : Nat × Int := match ((lev (nbr ts) p n).1.map fun q => (q.2, q.1)) with
  | [] => (0, 0)
  | x :: xs => maxPr x xs
def endOk (ts : List Tie) (n : Nat) (p : Int) : Bool := (lev (nbr ts) p n).2.isEmpty
def leastV (d n : Nat) : Nat := (lastR (tiesL d n) n (lastR (tiesL d n) n 0).2).1
def chk (d n : Nat) : Bool := endOk (tiesL d n) n 0 && endOk (tiesL d n) n (lastR (tiesL d n) n 0).2 && decide ((lastR (tiesL d n) n 0).2 ∈ (List.range n).map fun i => ((i : Nat) : Int))
end HI

set_option Elab.async false
set_option linter.all false
set_option maxRecDepth 100000
set_option maxHeartbeats 4000000
namespace HI
open PySem L2 PyProof.Rows Hw
abbrev sWithin : Stmt := topS 1
def layS : Nat → Int → Int
  | 0, _ => 0
  | n + 1, m => layS n m + (m - 1) ^ n
def roomV (f : Nat) (m : Int) : Int := if f % 2 = 0 then 1 + m * layS (f / 2) m else 2 * layS (f / 2 + 1) m
theorem pow_nn {m : Int} (h : 1 ≤ m) (n : Nat) : 0 ≤ (m - 1) ^ n := Int.pow_nonneg (by omega)
theorem lay_nn {m : Int} (h : 1 ≤ m) : ∀ n, 0 ≤ layS n m
  | 0 => Int.le_refl _
  | n + 1 => by
    have a := lay_nn h n
    have b := pow_nn h n
    show 0 ≤ layS n m + (m - 1) ^ n
    omega
theorem lay_one {m : Int} (h : 1 ≤ m) : ∀ n, 0 < n → 1 ≤ layS n m
  | 0, z => absurd z (by omega)
  | 1, _ => by
    show 1 ≤ 0 + (m - 1) ^ 0
    rw [Int.pow_zero]; decide
  | n + 2, _ => by
    have a := lay_one h (n + 1) (by omega)
    have b := pow_nn h (n + 1)
    show 1 ≤ layS (n + 1) m + (m - 1) ^ (n + 1)
    omega
theorem pow_one {m : Int} (h : 2 ≤ m) (n : Nat) : 1 ≤ (m - 1) ^ n := by
  induction n with
  | zero => rw [Int.pow_zero]; decide
  | succ n ih =>
    rw [Int.pow_succ]
    have h1 : (1 : Int) ≤ m - 1 := by omega
    have : (1 : Int) * 1 ≤ (m - 1) ^ n * (m - 1) := Int.mul_le_mul ih h1 (by decide) (by omega)
    omega
theorem lay_ge {m : Int} (h : 2 ≤ m) : ∀ n : Nat, (n : Int) ≤ layS n m
  | 0 => Int.le_refl _
  | n + 1 => by
    have a := lay_ge h n
    have b := pow_one h n
    show ((n + 1 : Nat) : Int) ≤ layS n m + (m - 1) ^ n
    omega
theorem lay_mul (m : Int) (r : Nat) : 1 + m * layS (r + 1) m = 1 + m * layS r m + m * (m - 1) ^ r := by
  show 1 + m * (layS r m + (m - 1) ^ r) = _
  rw [Int.mul_add]; omega
def IsFloor (many most : Int) (r : Nat) : Prop := (∀ i : Nat, i < r → 1 + most * layS i most < many) ∧ ¬ (1 + most * layS r most < many)
theorem IsFloor.uniq {many most : Int} {r r' : Nat} (h : IsFloor many most r) (h' : IsFloor many most r') : r = r' := by
  rcases Nat.lt_trichotomy r r' with a | a | a
  · exact absurd (h'.1 r a) h.2
  · exact a
  · exact absurd (h.1 r' a) h'.2
theorem floor_lt {many most : Int} (h1 : 1 ≤ many) (h2 : 1 ≤ most) (h3 : most = 1 → many ≤ 2) {r : Nat} (h : 1 + most * layS r most < many) : (r : Int) < many := by
  by_cases hm : most = 1
  · by_cases hr : r = 0
    · subst hr; omega
    · have := lay_one h2 r (by omega)
      have := h3 hm
      subst hm
      rw [Int.one_mul] at h
      omega
  · have g := lay_ge (m := most) (by omega) r
    have nn := lay_nn h2 r
    have : 1 * layS r most ≤ most * layS r most := Int.mul_le_mul_of_nonneg_right h2 nn
    omega
def spWithin : Sp := fun vs H Q _ => ∃ v a b : Int, vs = [.int v, .int a, .int b] ∧ Q (.bl (decide (a ≤ v ∧ v ≤ b))) H
def spPairI : Sp := fun vs H Q _ => ∃ a b : Int, vs = [.int a, .int b] ∧ a < b ∧ ∀ p, H p = none → Q (.ref p) (upd H p (.tup [.int a, .int b]))
def spLayers : Sp := fun vs H Q _ => ∃ (n : Nat) (m : Int), vs = [.int n, .int m] ∧ n ≤ 1000 ∧ 1 ≤ m ∧ m ≤ 200 ∧ Q (.int (layS n m)) H
def spTreeRoom : Sp := fun vs H Q _ => ∃ (f : Nat) (m : Int), vs = [.int f, .int m] ∧ f ≤ 40 ∧ 1 ≤ m ∧ m ≤ 200 ∧ Q (.int (roomV f m)) H
def spLRoom : Sp := fun vs H Q _ => ∃ (f : Nat) (m : Int), vs = [.int f, .int m] ∧ f ≤ 1000 ∧ 1 ≤ m ∧ m ≤ 200 ∧ ∀ H', Same H H' → Q (.int (roomV f m)) H'
def spFloor : Sp := fun vs H Q _ => ∃ many most : Int, vs = [.int many, .int most] ∧ 1 ≤ many ∧ many ≤ 1000000 ∧ 1 ≤ most ∧ most ≤ 200 ∧ (most = 1 → many ≤ 2) ∧ ∀ (r : Nat) H', IsFloor many most r → Same H H' → Q (.int r) H'
section
variable {P : Program} {w : World} {K : PySem.W.Frag} {mg : Str → Option Value} {base : Heap}
theorem scWithin : FnScope ["value", "least", "most"] ["value", "least", "most"] (defScope sWithin) := ⟨rfl, rfl, rfl, by decide +kernel, rfl, by decide +kernel, by decide +kernel⟩
theorem ok_within {f : Addr} {fd : FuncData} {k : Nat} (F : Fun K "is_within" "is_within" sWithin f fd) (B : Blt mg) (bi : mg "isinstance" = none) (bb : mg "bool" = none) : FnOk P w K mg base CX0 (k + 1) f fd ["value", "least", "most"] spWithin := by
  refine F.ok scWithin (fun vs H Q E h => ?_) (fun cdv A outer s H vs Q E hr h => ?_)
  · obtain ⟨v, a, b, rfl, _⟩ := h
    rfl
  · obtain ⟨v, a, b, rfl, q⟩ := h
    refine ⟨_, pss_cons (ps_if (PW.pt (pw_or (pt_not (pt_val (pe_callB call_isi (by rfl) bi PyProof.Rows.boot_isinstance (pa_cons (pv 0) (pa_cons (pe_bltn (v := .ty "int") (by rfl) B.int (by decide +kernel) rfl) pa_nil)))))
        (pw_or1 (pt_val (pe_callB call_isi (by rfl) bi PyProof.Rows.boot_isinstance (pa_cons (pv 0) (pa_cons (pe_bltn (v := .ty "bool") (by rfl) bb (by decide +kernel) rfl) pa_nil))))))) (pss_one (ps_ret pe_bl)) pss_nil)
      (pss_one (ps_ret (pe_chain op_le op_le (pv 1) (pv 0) (pv 2)))), ?_⟩
    refine rs_no ?_
    refine ⟨.int v, rfl, .int v, .ty "int", .type "int", .type "int", true, rfl, .ty _, .base (.int v), kit_ty (by decide +kernel), true, rfl, ?_⟩
    refine ⟨.int v, rfl, .int v, .ty "bool", .type "int", .type "bool", false, rfl, .ty _, .base (.int v), kit_ty (by decide +kernel), false, rfl, ?_⟩
    refine ⟨.int a, rfl, .int v, rfl, a, v, rfl, rfl, decide (a ≤ v), rfl, ?_⟩
    by_cases h1 : a ≤ v
    · rw [decide_eq_true h1]
      refine ⟨.int b, rfl, v, b, rfl, rfl, ?_⟩
      have e : decide (v ≤ b) = decide (a ≤ v ∧ v ≤ b) := by simp [h1]
      show Q (.bl (decide (v ≤ b))) H
      rw [e]; exact q
    · rw [decide_eq_false h1]
      have e : decide (a ≤ v ∧ v ≤ b) = false := decide_eq_false fun z => h1 z.1
      rw [e] at q; exact q
end
end HI

set_option Elab.async false
set_option linter.all false
set_option maxRecDepth 100000
set_option maxHeartbeats 4000000
namespace HI
open PySem L2 PyProof.Rows Hw
theorem no_skip {A u : TS} {D : Ends} {σ : L2.St} {H : Hp} {b : Bool} (hb : b = true) (h : u D σ H) : ∃ b', V.bl b = .bl b' ∧ (if (!b') = true then A { D with nx := u D } σ H else u D σ H) :=
  ⟨b, rfl, by rw [hb]; exact h⟩
section
variable {P : Program} {w : World} {K : PySem.W.Frag} {mg : Str → Option Value} {base : Heap}
end
end HI

set_option Elab.async false
set_option linter.all false
set_option maxRecDepth 100000
set_option maxHeartbeats 4000000
namespace HI
open PySem L2 PyProof.Rows Hw
section
variable {P : Program} {w : World} {K : PySem.W.Frag} {mg : Str → Option Value} {base : Heap}
theorem rs_par3 {i j l : Nat} {ta : TA} {u : TS} {D : Ends} {σ : L2.St} {H : Hp} (h : ta σ H fun vs H1 => ∃ x y z, vs = [x, y, z] ∧ u D (((σ.set i (some x)).set j (some y)).set l (some z)) H1) : tSeq (tPar3 i j l ta) u D σ H := h
end
end HI

set_option Elab.async false
set_option linter.all false
set_option maxRecDepth 100000
set_option maxHeartbeats 4000000
namespace HI
open PySem L2 PyProof.Rows Hw
abbrev sLast : Stmt := topS 18
abbrev sWay : Stmt := topS 17
def prD (q : Nat × Int) : PyData := .tuple [.int (q.1 : Nat), .int q.2]
theorem dataLt_pr (a b : Nat × Int) : PySem.W.dataLt (prD a) (prD b) = ltPr a b := by
  unfold prD ltPr
  rw [PySem.W.dataLt_pair (by simp [PySem.W.alike]) (by simp [PySem.W.alike]), PySem.W.dataLt_int, PySem.W.dataLt_int]
  simp only [PyData.eqv]
  by_cases h1 : a.1 = b.1
  · by_cases h2 : a.2 = b.2 <;> simp [h1, h2]
  · have h3 : ¬ ((a.1 : Int) = (b.1 : Int)) := by omega
    simp [h1, h3]
theorem maxD_pr (x : Nat × Int) (xs : List (Nat × Int)) : PySem.W.maxD (prD x) (xs.map prD) = prD (maxPr x xs) := by
  unfold PySem.W.maxD maxPr
  induction xs generalizing x with
  | nil => rfl
  | cons y xs ih =>
    rw [List.map_cons, List.foldl_cons, List.foldl_cons, dataLt_pr]
    by_cases h : ltPr x y = true
    · rw [if_pos h, if_pos h]; exact ih y
    · rw [if_neg h, if_neg h]; exact ih x
theorem prD_inj {a b : Nat × Int} (h : prD a = prD b) : a = b := by
  unfold prD at h
  injection h with h
  injection h with h1 h2
  injection h2 with h2 _
  injection h1 with h1
  injection h2 with h2
  exact Prod.ext (by omega) h2
theorem alike_pr (xs : List (Nat × Int)) : PySem.W.AlikeAll (xs.map prD) := by
  refine ⟨fun d hd d' hd' => ?_, fun d hd => ?_⟩
  · obtain ⟨a, _, rfl⟩ := List.mem_map.mp hd
    obtain ⟨b, _, rfl⟩ := List.mem_map.mp hd'
    unfold prD
    simp [PySem.W.alike, PySem.W.alikeAll]
  · obtain ⟨a, _, rfl⟩ := List.mem_map.mp hd
    exact fun e => nomatch e
theorem depth_pr (a : Nat × Int) : (prD a).depth ≤ 50 := by
  unfold prD
  simp [PyData.depth, PyData.depthAll]
theorem lev_self {ns : List Int} {nb : Int → List Int} (hnb : ∀ n ∈ ns, ∀ o ∈ nb n, o ∈ ns) {p : Int} (hp : p ∈ ns) : ∀ i, p ∈ (lev nb p i).1.map (·.1)
  | 0 => List.mem_cons_self
  | i + 1 => by
    obtain ⟨n0, f⟩ := lev_ok hnb hp i
    exact (FarOk.foldE hnb (s := ((lev nb p i).1, [])) ⟨f.nd, f.sub, (fun _ z => nomatch z), rfl⟩ fun o ho => f.sub o (f.bey o ho)).2 p (lev_self hnb hp i)
theorem lookF_mem {far : Far} (nd : (far.map (·.1)).Nodup) {z : Int × Nat} (hz : z ∈ far) : lookF far z.1 = z.2 := by
  unfold lookF
  induction far with
  | nil => cases hz
  | cons y far ih =>
    rw [List.map_cons, List.nodup_cons] at nd
    rcases List.mem_cons.mp hz with rfl | hm
    · rw [List.find?_cons_of_pos (by exact decide_eq_true rfl)]; rfl
    · rw [List.find?_cons_of_neg (by
        have : y.1 ≠ z.1 := fun e => nd.1 (by rw [e]; exact List.mem_map.mpr ⟨z, hm, rfl⟩)
        simpa using this)]
      exact ih nd.2 hm
theorem smallM2 {n : Nat} (h : n ≤ 100000) : n < sizeLine := by rw [sizeLine_eq]; omega
theorem snocP {α β : Type} {F : α → β → Prop} {x : α} {y : β} (f : F x y) : ∀ {xs : List α} {ys : List β}, Paired F xs ys → Paired F (xs ++ [x]) (ys ++ [y])
  | _, _, .nil => .cons f .nil
  | _, _, .cons h t => .cons h (snocP f t)
abbrev PrT (H : Hp) (a : Addr) (q : Nat × Int) : Prop := H a = some (.tup [.int (q.1 : Nat), .int q.2])
def spLast : Sp := fun vs H Q _ => ∃ (d : Addr) (p : Int) (f : Int → Addr) (ns : List Int) (ts : List Tie) (n : Nat), vs = [.ref d, .int p] ∧ NearL f H d ns (nbr ts) ∧ p ∈ ns ∧ ns.length ≤ 200 ∧ (∀ n ∈ ns, ∀ o ∈ nbr ts n, o ∈ ns) ∧ endOk ts n p = true ∧
  ∀ q H', Same H H' → PrT H' q (lastR ts n p) → Q (.ref q) H'
section
variable {P : Program} {w : World} {K : PySem.W.Frag} {mg : Str → Option Value} {base : Heap}
theorem scLast : FnScope ["tied", "place", "far", "other"] ["tied", "place"] (defScope sLast) := ⟨rfl, rfl, rfl, by decide +kernel, rfl, by decide +kernel, by decide +kernel⟩
theorem ok_last {f fA : Addr} {fd fdA : FuncData} {k : Nat} (F : Fun K "last_reached" "last_reached" sLast f fd) (B : Blt mg)
    (GA : FnOk P w K mg base CX0 k fA fdA ["tied", "place"] spFars) (gA : mg "far_along" = some (.ref fA)) (kA : PySem.W.keepIn K (.ref fA) = true) (bA : Binds K fdA ["tied", "place"] []) :
    FnOk P w K mg base CX0 (k + 1) f fd ["tied", "place"] spLast := by
  refine F.ok scLast (fun vs H Q E h => ?_) (fun cdv A outer s H vs Q E hr h => ?_)
  · obtain ⟨d, p, f, ns, ts, n, rfl, _⟩ := h
    rfl
  · obtain ⟨d, p, fa, ns, ts, n, rfl, nl, hp, hl, hnb, he, q⟩ := h
    have hu := hu_of hr
    have hu64 := hr.units
    refine ⟨_, pss_cons (ps_set (i := 2) scLast.nd rfl (.inr rfl) (pe_call GA hr (by rfl) gA kA bA .nil pass0 (pa_cons (pv 0) (pa_cons (pv 1) pa_nil))))
      (pss_one (ps_ret (pe_callB (cr_maxB rfl hu64) (by rfl) B.max PyProof.Rows.boot_max (pa_cons (pe_lock (pe_lc (own := [("other", 3)]) (g := gName 3) (tt := tYes) (te := tTup (tCons (tDGet (tVar 2) (tVar 3)) (tCons (tVar 3) tNil))) rfl scLast.nd (pi_keys (pv 2))
          (blkOk_by (N := ["tied", "place", "far", "other"]) (sc := defScope sLast) (by decide +kernel)) (fun _ _ _ _ _ => pg_name (i := 3) scLast.nd rfl (Or.inl rfl)) (fun _ _ _ _ _ => pts_nil)
          (fun _ _ _ _ _ => pe_tup (pa_cons (pe_dget hu (pv 2) (pv 3) (fun _ _ => rfl)) (pa_cons (pv 3) pa_nil))))) pa_nil)))), ?_⟩
    refine rs_set ?_
    refine ⟨.ref d, rfl, .int p, rfl, d, p, fa, ns, ts, rfl, nl, hp, by omega, hnb, fun far fd' H1 hb hf s1 e1 n1 => ?_⟩
    have hlev : lev (nbr ts) p n = ((lev (nbr ts) p n).1, []) := Prod.ext rfl (List.isEmpty_iff.mp he)
    have efar : far = (lev (nbr ts) p n).1 := hb.uniq ⟨n, hlev⟩
    obtain ⟨n0, fk⟩ := hf
    have few : far.length ≤ ns.length := fk.few
    refine ⟨fd', .dK (encF far), e1, trivial, fun od => ?_⟩
    refine ⟨.ref fd', rfl, fd', od, rfl, .inl ⟨encF far, upd_same, fun D nD => ?_⟩⟩
    have nfD : D ≠ fd' := fun z => by rw [z, upd_same] at nD; cases nD
    have nD1 : H1 D = none := by rw [upd_ne nfD] at nD; exact nD
    have hel : (encF far).length = far.length := by unfold encF; rw [List.length_map]
    refine lc_it walk_keys (fun i H' => SameX fd' H1 H' ∧ H' fd' = some (.frz od (.dK (encF far))) ∧ ∃ tp : List Addr, H' D = some (.lst (tp.map V.ref)) ∧ Paired (PrT H') tp ((far.take i).map fun q => (q.2, q.1)))
      ⟨fun b o hb e => by rw [upd_ne (ne_of_none e nD1), upd_ne hb]; exact e, by rw [upd_ne (Ne.symm nfD)]; exact upd_same, [], upd_same, .nil⟩ (fun i H' _ h => h.2.1) ?_ ?_
    · rintro i x H3 H2 hi ⟨sx, ed, tp, eD, hpp⟩ ⟨rfl, kk, v, hk, rfl⟩
      obtain ⟨z, hz, ez⟩ : ∃ z, far[i]? = some z ∧ (kk, v) = ((Sum.inl z.1 : Key), V.int (z.2 : Int)) := by
        unfold encF at hk
        rw [List.getElem?_map] at hk
        cases e : far[i]? with
        | none => rw [e] at hk; cases hk
        | some z => rw [e] at hk; exact ⟨z, rfl, (Option.some.inj hk).symm⟩
      cases ez
      have hzk : z.1 ∈ far.map (·.1) := List.mem_map.mpr ⟨z, List.mem_of_getElem? hz, rfl⟩
      have hval : valV (encF far) (Sum.inl z.1) = some (V.int (z.2 : Int)) := by
        rw [valV_far, if_pos hzk]
        rw [lookF_mem fk.nd (List.mem_of_getElem? hz)]
      have htp : tp.length ≤ 200 := by
        rw [Paired.length hpp, List.length_map, List.length_take]; omega
      refine ⟨rfl, r_yes ?_⟩
      have dg : DGet H2 fd' (.int z.1) (valV (encF far) (Sum.inl z.1)) := .inl ⟨_, Sum.inl z.1, .inr ⟨_, ed⟩, rfl, rfl⟩
      rw [hval] at dg
      refine ⟨.ref fd', rfl, .int z.1, rfl, fd', _, rfl, dg, .int z.1, rfl, by show 2 ≤ sizeLine; decide, fun a na => ?_⟩
      have s2 := same_upd (o := .tup [.int (z.2 : Int), .int z.1]) na
      have naD : a ≠ D := fun y => by rw [y, eD] at na; cases na
      refine ⟨_, s2 _ _ eD, smallM2 (by rw [List.length_map]; omega), fun b o hb e => ?_, ?_, tp ++ [a], by rw [upd_same, List.map_append]; rfl, ?_⟩
      · rw [upd_ne (ne_of_none e nD1)]
        exact s2 _ _ (sx _ _ hb e)
      · rw [upd_ne (Ne.symm nfD)]; exact s2 _ _ ed
      · rw [take_snoc hz, List.map_append]
        refine snocP ?_ (paired_mono (fun q n e => ?_) hpp)
        · show (upd _ D _) a = _
          rw [upd_ne naD, upd_same]
        · have e : H2 q = _ := e
          show (upd _ D _) q = _
          rw [upd_ne (fun y => by rw [y, eD] at e; cases e)]
          exact s2 _ _ e
    · rintro H2 ⟨sx, ed, tp, eD, hpp⟩
      rw [hel, List.take_length] at hpp
      refine ⟨ed, ?_⟩
      have nfD2 : D ≠ fd' := nfD
      have sF : Same H1 (upd H2 fd' (.dK (encF far))) := fun b o e => by
        by_cases hb : b = fd'
        · subst hb
          rw [upd_same, ← e1]; exact e
        · rw [upd_ne hb]; exact sx _ _ hb e
      have eD2 : (upd H2 fd' (.dK (encF far))) D = some (.lst (tp.map V.ref)) := by rw [upd_ne nfD]; exact eD
      have hp2 : Paired (PrT (upd H2 fd' (.dK (encF far)))) tp (far.map fun q => (q.2, q.1)) := paired_mono (fun q n e => by
        have e : H2 q = _ := e
        show (upd H2 fd' _) q = _
        rw [upd_ne (fun z => by rw [z, ed] at e; cases e)]
        exact e) hpp
      generalize (upd H2 fd' (.dK (encF far))) = H4 at sF eD2 hp2
      obtain ⟨l, hl1, hl2, hl3⟩ := zip_of hp2
      cases l with
      | nil =>
        exfalso
        have : far = [] := by
          have h2 : ([] : List (Nat × Int)) = far.map fun q => (q.2, q.1) := hl2
          exact List.map_eq_nil_iff.mp h2.symm
        have hs := lev_self hnb hp n
        rw [← efar, this] at hs
        cases hs
      | cons x0 l =>
        have eb1 : ((V.ref x0.1, prD x0.2) :: l.map fun x => (V.ref x.1, prD x.2)).map (·.1) = tp.map V.ref := by rw [← hl1]; simp
        have eb2 : ((V.ref x0.1, prD x0.2) :: l.map fun x => (V.ref x.1, prD x.2)).map (·.2) = ((x0 :: l).map (·.2)).map prD := by simp
        refine ⟨D, (V.ref x0.1, prD x0.2), l.map fun x => (V.ref x.1, prD x.2), rfl, by rw [eb1]; exact sql_of eD2, fun b hb => ?_, by rw [eb2]; exact alike_pr _, fun b hb e => ?_⟩
        · obtain ⟨x, hx, rfl⟩ : ∃ x ∈ x0 :: l, b = (V.ref x.1, prD x.2) := by
            rcases List.mem_cons.mp hb with rfl | hb
            · exact ⟨x0, List.mem_cons_self, rfl⟩
            · obtain ⟨x, hx, rfl⟩ := List.mem_map.mp hb
              exact ⟨x, List.mem_cons_of_mem _ hx, rfl⟩
          exact ⟨.tup (sqt_of (hl3 x hx)) (.cons (.int _) (.cons (.int _) .nil)), depth_pr _⟩
        · obtain ⟨x, hx, rfl⟩ : ∃ x ∈ x0 :: l, b = (V.ref x.1, prD x.2) := by
            rcases List.mem_cons.mp hb with rfl | hb
            · exact ⟨x0, List.mem_cons_self, rfl⟩
            · obtain ⟨x, hx, rfl⟩ := List.mem_map.mp hb
              exact ⟨x, List.mem_cons_of_mem _ hx, rfl⟩
          have e3 : PySem.W.maxD (prD x0.2) ((l.map fun x => (V.ref x.1, prD x.2)).map (·.2)) = prD (maxPr x0.2 (l.map (·.2))) := by
            rw [List.map_map, ← maxD_pr, List.map_map]; rfl
          have e4 := prD_inj (e.trans e3)
          refine q x.1 H4 (s1.trans sF) ?_
          have e5 : lastR ts n p = x.2 := by
            unfold lastR
            rw [← efar, ← hl2]
            show maxPr x0.2 (l.map (·.2)) = x.2
            exact e4.symm
          rw [e5]
          exact hl3 x hx
end
end HI

set_option Elab.async false
set_option linter.all false
set_option maxRecDepth 100000
set_option maxHeartbeats 4000000
namespace HI
open PySem L2 PyProof.Rows Hw
abbrev sChkL : Stmt := topS 13
def limsV (d n : Nat) : List V := List.replicate n (.int (d : Int))
def nsI (n : Nat) : List Int := (List.range n).map fun i => ((i : Nat) : Int)
def GoodL (d n : Nat) : Prop := 2 ≤ d ∧ d ≤ 5 ∧ 2 ≤ n ∧ n ≤ 61
def spChk : Sp := fun vs H Q _ => ∃ (a : Addr) (d n : Nat), vs = [.ref a] ∧ H a = some (.tup (limsV d n)) ∧ GoodL d n ∧ ∀ H', Same H H' → Q .non H'
theorem lims_len (d n : Nat) : (limsV d n).length = n := by unfold limsV; rw [List.length_replicate]
theorem lims_at {d n i : Nat} {x : V} (h : (limsV d n)[i]? = some x) : x = .int (d : Int) := List.eq_of_mem_replicate (List.mem_of_getElem? h)
theorem all_repI (n : Nat) : (List.replicate n true).all id = true := by
  rw [List.all_eq_true]
  intro b hb
  rw [List.eq_of_mem_replicate hb]; rfl
def spWay : Sp := fun vs H Q _ => ∃ (t : Addr) (d n : Nat) (qs : List Addr), vs = [.int (n : Nat), .ref t] ∧ GoodL d n ∧ H t = some (.tup (qs.map V.ref)) ∧ Paired (TieL H) qs (tiesL d n) ∧ ∀ H', Same H H' → Q (.int (leastV d n : Nat)) H'
theorem par_le {d i : Nat} (hd : 2 ≤ d) : par d i ≤ i := by
  unfold par
  by_cases h : i < d
  · rw [if_pos h]; exact Nat.zero_le _
  · rw [if_neg h]
    have := Nat.div_le_self (i - d) (d - 1)
    omega
theorem par_mono {d i j : Nat} (h : i ≤ j) : par d i ≤ par d j := by
  unfold par
  by_cases h1 : i < d
  · rw [if_pos h1]; exact Nat.zero_le _
  · rw [if_neg h1, if_neg (show ¬ j < d by omega)]
    have := Nat.div_le_div_right (c := d - 1) (show i - d ≤ j - d by omega)
    omega
theorem mem_ns {n : Nat} {i : Nat} (h : i < n) : ((i : Nat) : Int) ∈ nsI n := List.mem_map.mpr ⟨i, List.mem_range.mpr h, rfl⟩
theorem ns_nd (n : Nat) : (nsI n).Nodup := List.Pairwise.map _ (fun a b h e => h (by omega)) List.nodup_range
theorem ns_len (n : Nat) : (nsI n).length = n := by unfold nsI; rw [List.length_map, List.length_range]
theorem ties_fine {d n : Nat} (g : GoodL d n) : FineW (nsI n) (tiesL d n) := by
  obtain ⟨g1, g2, g3, g4⟩ := g
  refine ⟨ns_nd n, by rw [ns_len]; omega, fun t ht => ?_, by unfold tiesL; rw [List.length_map, List.length_range]; omega⟩
  obtain ⟨i, hi, rfl⟩ := List.mem_map.mp ht
  have hi := List.mem_range.mp hi
  have := par_le (d := d) (i := i) g1
  exact ⟨mem_ns (by omega), mem_ns (by omega), by show ((par d i : Nat) : Int) < ((i + 1 : Nat) : Int); omega⟩
def chkAll (d n : Nat) : Bool := endOk (tiesL d n) n 0 && endOk (tiesL d n) n (lastR (tiesL d n) n 0).2 && decide ((lastR (tiesL d n) n 0).2 ∈ nsI n) && decide (1 ≤ leastV d n) && decide (leastV d n ≤ 100) && decide ((n : Int) ≤ roomV (leastV d n) d) && decide (roomV (leastV d n - 1) d < (n : Int)) && decide ((n : Int) ≤ 1 + (d : Int) * layS (leastV d n) d)
end HI

set_option Elab.async false
set_option linter.all false
set_option maxRecDepth 100000
set_option maxHeartbeats 4000000
namespace HI
open PySem L2 PyProof.Rows Hw
section
variable {P : Program} {w : World} {K : PySem.W.Frag} {mg : Str → Option Value} {base : Heap}
theorem scChkL : FnScope ["value", "limit"] ["value"] (defScope sChkL) := ⟨rfl, rfl, rfl, by decide +kernel, rfl, by decide +kernel, by decide +kernel⟩
theorem ok_chkl {f fW : Addr} {fd fdW : FuncData} {k : Nat} (F : Fun K "check_limits" "check_limits" sChkL f fd) (B : Blt mg) (bi : mg "isinstance" = none) (bt : mg "tuple" = none) (ba : mg "all" = none) (hL : ∃ t, mg "MOST_LIMITS" = some (.int 200 t)) (hT : ∃ t, mg "MOST_TIES" = some (.int 200 t))
    (GW : FnOk P w K mg base CX0 k fW fdW ["value", "least", "most"] spWithin) (gW : mg "is_within" = some (.ref fW)) (kW : PySem.W.keepIn K (.ref fW) = true) (bW : Binds K fdW ["value", "least", "most"] []) :
    FnOk P w K mg base CX0 (k + 1) f fd ["value"] spChk := by
  refine F.ok scChkL (fun vs H Q E h => ?_) (fun cdv A outer s H vs Q E hr h => ?_)
  · obtain ⟨a, d, n, rfl, _⟩ := h
    rfl
  · obtain ⟨a, d, n, rfl, e1, ⟨g1, g2, g3, g4⟩, q⟩ := h
    obtain ⟨t1, gL⟩ := hL
    obtain ⟨t2, gT⟩ := hT
    refine ⟨_, pss_one (ps_if (pt_not (PW.pt (pw_and (pt_val (pe_callB call_isi (by rfl) bi PyProof.Rows.boot_isinstance (pa_cons (pv 0) (pa_cons (pe_bltn (v := .ty "tuple") (by rfl) bt (by decide +kernel) rfl) pa_nil))))
      (pw_and (pt_chain op_le op_le pe_int (pe_callB call_len_seq (by rfl) B.len PySem.boot_len (pa_cons (pv 0) pa_nil)) (pe_glob (v := .int 200) (by rfl) gL ⟨_, rfl⟩))
      (pw_and1 (pt_val (pe_callB (cr_all rfl) (by rfl) ba PyProof.Rows.boot_all (pa_cons (pe_lc (own := [("limit", 1)]) (g := gName 1) (tt := tYes) rfl scChkL.nd (pi_tup (pv 0)) (blkOk_by (N := ["value", "limit"]) (sc := defScope sChkL) (by decide +kernel))
          (fun _ _ _ _ _ => pg_name (i := 1) scChkL.nd rfl (Or.inl rfl)) (fun _ _ _ _ _ => pts_nil) (fun _ _ _ _ _ => pe_call GW hr (by rfl) gW kW bW .nil pass0 (pa_cons (pv 1) (pa_cons pe_int (pa_cons (pe_glob (v := .int 200) (by rfl) gT ⟨_, rfl⟩) pa_nil))))) pa_nil)))))))) (pss_one ps_never) pss_nil), ?_⟩
    refine ⟨.ref a, rfl, .ref a, .ty "tuple", .type "tuple", .type "tuple", true, rfl, .ty _, .base (.tup e1), kit_ty (by decide +kernel), true, rfl, ?_⟩
    refine ⟨.ref a, rfl, a, limsV d n, rfl, .inr (sqt_of e1), _, _, rfl, rfl, true, congrArg V.bl (decide_eq_true (by rw [lims_len]; omega)), ?_⟩
    refine ⟨_, _, rfl, rfl, true, congrArg V.bl (decide_eq_true (by rw [lims_len]; omega)), ?_⟩
    refine ⟨.ref a, rfl, a, rfl, ⟨_, sqt_of e1⟩, fun D hD => lc_tup (xs := limsV d n) (fun i H' => Same H H' ∧ H' D = some (.lst ((List.replicate i true).map V.bl))) ⟨same_upd hD, upd_same⟩ (fun i H' _ h => sqt_of (h.1 _ _ e1)) ?_ ?_⟩
    · rintro i x H' hx ⟨sx, eD⟩
      obtain rfl := lims_at hx
      have hi := (List.getElem?_eq_some_iff.mp hx).1
      rw [lims_len] at hi
      refine ⟨rfl, r_yes ?_⟩
      refine ⟨.int (d : Int), rfl, (d : Int), 0, 200, rfl, _, eD, smallM2 (by rw [List.length_map, List.length_replicate]; omega), ?_, ?_⟩
      · intro b o e
        rw [upd_ne (ne_of_none e hD)]
        exact sx _ _ e
      · rw [upd_same, List.replicate_succ', List.map_append, decide_eq_true (show (0 : Int) ≤ d ∧ (d : Int) ≤ 200 by omega)]; rfl
    · rintro H' ⟨sx, eD⟩
      refine ⟨D, _, rfl, sql_of eD, true, congrArg V.bl (all_repI _), ?_⟩
      exact q H' sx
theorem sum_rep (d : Int) : ∀ n : Nat, (List.replicate n d).sum = (n : Int) * d
  | 0 => by simp
  | n + 1 => by
    rw [List.replicate_succ, List.sum_cons, sum_rep d n]
    rw [show ((n + 1 : Nat) : Int) = (n : Int) + 1 from by omega, Int.add_mul]
    omega
end
end HI

set_option Elab.async false
set_option linter.all false
set_option maxRecDepth 100000
set_option maxHeartbeats 4000000
namespace Hw
open PySem PySem.Spec L2 PyProof.Rows LamX
/-! a thing that can be called without arguments, handed from def to def -/
/-- from the moment (fs, H0, h0) on: whoever calls f, in whatever frames, where G holds, sees tl -/
structure Act (CXl : CXT) (P : Program) (w : World) (K : PySem.W.Frag) (mg : Str → Option Value) (base : Heap) (k : Nat) (f : Addr) (fs : List Addr) (H0 : Hp) (h0 : Heap) (G : Hp → Prop) (tl : XK → Hp → VK → Prop) : Prop where
  at_ : ∃ (n q : Str) (ps : Arguments) (b : Expr) (sc : Scope) (cl : List (Str × Addr)) (pm : Value) (c : Addr) (ct : Value), h0.get? f = some (PySem.W.kla_obj n q ps b sc cl pm c ct)
  free : H0 f = none
  out : f ∉ fs
  call : ∀ (A : Around) (outer : List Env) (s : Shared) (H : Hp) (Q : VK) (E : XK), Room (k + 1) A → Env0 P w K mg base A outer s H → Un fs [] H0 H h0 s.heap → G H → tl E H Q →
    codeAny (model P w) A (.call (.ref f) ⟨[], []⟩) (CR CXl outer P w H s Q E) s
/-- a lambda's context, CXl being what is said of what it lets out -/
abbrev lamCW (CXl : CXT) (X : Cx) (A : Around) (outer : List Env) (s : Shared) (H : Hp) (E : XK) (scope : Scope) (f c' : Addr) : Cx :=
  (lamCx X A outer s H E scope f c').wish fun e s' => wpAny (model X.prog X.w) (A.deeper (lamEnv X scope s.heap.objs.size f c')) (leaving (lamEnv X scope s.heap.objs.size f c') e) (fun _ s'' => CXl outer H s E e s'') (fun e' s'' => CXl outer H s E e' s'') s'
section
variable {CXl : CXT} {X : Cx} {pins : List (Addr × Obj)} {σ : L2.St} {H : Hp} {s : Shared}
/-- a lambda just made -/
theorem act_of {f c' : Addr} {pm ctv : Value} {params : Arguments} {body : Expr} {scope : Scope} {k : Nat} {t : XK → TE} (I : Inv X pins σ H s) (L : LamS X.env.scope scope)
    (hf : s.heap.get? f = some (PySem.W.kla_obj "<lambda>" (X.env.qual ++ "<lambda>") params body scope (cloFrom X.env.cells scope.names []) pm c' ctv)) (hfn : H f = none) (hfr : f ∉ frs X.stack)
    (hbind : bindArgs (PySem.W.kla_fn "<lambda>" (X.env.qual ++ "<lambda>") params body scope (cloFrom X.env.cells scope.names []) pm (.ref c') ctv) ⟨[], []⟩ = pure [])
    (hbody : ∀ (A : Around) (outer : List Env) (s : Shared) (H : Hp) (E : XK), Room k (A.deeper (lamEnv X scope s.heap.objs.size f c')) → PE (lamCW CXl X A outer s H E scope f c') body (t E)) :
    Act CXl X.prog X.w X.K X.mg X.base k f (frs X.stack) H s.heap (fun H1 => H1 c' = some (CodeO c' (X.env.qual ++ "<lambda>"))) (fun E H1 Q => t E σ H1 Q) := by
  refine ⟨⟨_, _, _, _, _, _, _, _, _, hf⟩, hfn, hfr, fun A outer s1 H1 Q E hr e0 un hc ht => ?_⟩
  have here := un.keep f _ hf hfn hfr (List.not_mem_nil)
  obtain ⟨⟨oc, vs, tk, c1, c2, c3⟩, _, _⟩ := e0.hok c' _ hc
  have lim : s1.heap.NoLimit := e0.mod.nolimit.keeps fun b o e => (e0.bs b o e).1
  refine PySem.W.kla_callFunE hr.depth here rfl L.co L.gen rfl ⟨c', oc, vs, tk, rfl, c1, c2, c3⟩ ?_
  rw [hbind]
  refine wpAny_pure (wpAny_newFunctionEnv (fun y hy => (L.own y hy).2) (fun y hy => nomatch hy) (fun h2 ns sb => ⟨lim.fresh _ sb, ?_⟩) L.kind)
  have kept : ∀ b o, s1.heap.get? b = some o → h2.get? b = some o := fun b o e => sb.extBut b o (Nat.ne_of_lt (Heap.lt_size e)) (Heap.get?_push_of_some _ e)
  have J := lam_start2 (E := E) (f := f) (c' := c') (tk := s1.toks + ([] : List (Str × Value)).length) I L e0 hr.hd un ns kept
  refine PySem.W.kla_codeExpr (wpAny_mono ((hbody A outer s1 H1 E (hr.deeper _)).run [] _ _ H1 Q (J.wish _) ht) (fun v s' hq => ?_) fun e s' hq => hq)
  obtain ⟨x, H2, J2, rv, q⟩ := hq
  have J2 := J2.unwish
  exact ⟨x, H2, J2.os, J2.bare, J2.base, J2.hok, rv, q⟩
/-- two stretches of a way, the second one seen from a frame more -/
theorem un_join {fs : List Addr} {L : Addr} {H0 H1 H2 : Hp} {h0 h1 h2 : Heap} {gs : List Addr} (a : Un fs [] H0 H1 h0 h1) (b : Un gs [] H1 H2 h1 h2) (hg : ∀ x, x ∈ gs → x ∈ fs ∨ x = L) (hf : ∀ x, x ∈ fs → x ∈ gs) (hL : h0.objs.size ≤ L) : Un fs [] H0 H2 h0 h2 where
  keep := fun c o e n hc _ => b.keep c o (a.keep c o e n hc List.not_mem_nil) (a.free c o e n List.not_mem_nil) (fun m => (hg c m).elim hc fun z => absurd (Heap.lt_size e) (by rw [z]; exact Nat.not_lt_of_le hL)) List.not_mem_nil
  slot := fun c o e n hc _ => by
    obtain ⟨sl, e1⟩ := a.slot c o e n hc List.not_mem_nil
    obtain ⟨sl', e2⟩ := b.slot c _ e1 (a.free c o e n List.not_mem_nil) (hf c hc) List.not_mem_nil
    exact ⟨sl', e2⟩
  free := fun c o e n _ => by
    obtain ⟨o', e1⟩ := a.there c o e List.not_mem_nil
    exact b.free c o' e1 (a.free c o e n List.not_mem_nil) List.not_mem_nil
  there := fun c o e _ => by
    obtain ⟨o', e1⟩ := a.there c o e List.not_mem_nil
    exact b.there c o' e1 List.not_mem_nil
  tups := fun c xs e => b.tups c xs (a.tups c xs e)
  frzs := fun c o u e => b.frzs c o u (a.frzs c o u e)
  tbls := fun c ps e => by
    obtain ⟨m1, e1⟩ := a.tbls c ps e
    obtain ⟨m2, e2⟩ := b.tbls c _ e1
    exact ⟨m1 ++ m2, by rw [e2, Array.append_assoc]⟩
/-- within a def that got it: it may be handed on -/
theorem Act.down {k : Nat} {f : Addr} {G : Hp → Prop} {tl : XK → Hp → VK → Prop} (hex : X.ex = []) (ac : Act CXl X.prog X.w X.K X.mg X.base k f X.fs X.H_0 X.s_0.heap G tl) (hs : X.stack = X.env :: X.outer) (hfm : X.env.frame = some X.env.locals) (I : Inv X pins σ H s) :
    Act CXl X.prog X.w X.K X.mg X.base k f (frs X.stack) H s.heap G tl := by
  have ub : Un X.fs [] X.H_0 H X.s_0.heap s.heap := by
    have := I.base
    rwa [hex] at this
  have hfr : frs X.stack = X.env.locals :: X.fs := by
    rw [hs]
    show List.filterMap _ _ = _
    rw [List.filterMap_cons, hfm]; rfl
  obtain ⟨n, q, ps, b, sc, cl, pm, c, ct, e⟩ := ac.at_
  refine ⟨⟨n, q, ps, b, sc, cl, pm, c, ct, ub.keep f _ e ac.free ac.out List.not_mem_nil⟩, ub.free f _ e ac.free List.not_mem_nil, fun m => ?_, fun A outer s1 H1 Q E hr e0 un hg ht => ac.call A outer s1 H1 Q E hr e0 (un_join (L := X.env.locals) ub un (fun x m => ?_) (fun x m => ?_) I.ok.above) hg ht⟩
  · rw [hfr] at m
    rcases List.mem_cons.mp m with z | z
    · have := Heap.lt_size e
      rw [z] at this
      exact absurd this (Nat.not_lt_of_le I.ok.above)
    · exact ac.out z
  · rw [hfr] at m
    exact (List.mem_cons.mp m).elim .inr .inl
  · rw [hfr]
    exact List.mem_cons_of_mem _ m
end
end Hw

set_option Elab.async false
set_option linter.all false
set_option maxRecDepth 100000
set_option maxHeartbeats 4000000
namespace Hw
open PySem PySem.Spec L2 PyProof PyProof.Rows LamX
/-! defs that get a callable and call it: what they want may speak of the frames and the heap they start in -/
abbrev SpL := List Addr → Heap → Sp
section
variable (P : Program) (w : World) (K : PySem.W.Frag) (mg : Str → Option Value) (base : Heap)
structure FnGL (CX : CXT) (k : Nat) (f : Addr) (fd : FuncData) (ps : List Str) (sp : SpL) : Prop where
  len : ∀ fs h vs H Q E, sp fs h vs H Q E → vs.length = ps.length
  run : ∀ (A : Around) (outer : List Env) (s : Shared) (H : Hp) (args : Args) (us : List Value) (vs : List V) (Q : VK) (E : XK), RoomG k A → Env0 P w K mg base A outer s H →
    BindsTo s fd args (ps.zip us) → Vals vs us → sp (frs outer) s.heap vs H Q E → codeAny (model P w) A (.call (.ref f) args) (CR CX outer P w H s Q E) s
end
section
variable {P : Program} {w : World} {K : PySem.W.Frag} {mg : Str → Option Value} {base : Heap} {CX : CXT} {k : Nat} {f : Addr} {fd : FuncData} {ps : List Str} {sp sp' : SpL}
theorem toGL {sp : Sp} (F : FnG P w K mg base CX k f fd ps sp) : FnGL P w K mg base CX k f fd ps (fun _ _ => sp) := ⟨fun _ _ => F.len, fun A o s H a us vs Q E hr he hb hv hs => F.run A o s H a us vs Q E hr he hb hv hs⟩
theorem FnGL.mono {j : Nat} (F : FnGL P w K mg base CX j f fd ps sp) (h : j ≤ k) : FnGL P w K mg base CX k f fd ps sp := ⟨F.len, fun A o s H a us vs Q E hr => F.run A o s H a us vs Q E (hr.mono h)⟩
theorem FnGL.imp (F : FnGL P w K mg base CX k f fd ps sp) (h : ∀ fs h vs H Q E, sp' fs h vs H Q E → sp fs h vs H Q E) : FnGL P w K mg base CX k f fd ps sp' :=
  ⟨fun fs g vs H Q E q => F.len fs g vs H Q E (h _ _ _ _ _ _ q), fun A o s H a us vs Q E hr he hb hv hs => F.run A o s H a us vs Q E hr he hb hv (h _ _ _ _ _ _ hs)⟩
end
/-- a def by its body -/
theorem fnGL_of {CX : CXT} {P : Program} {w : World} {K : PySem.W.Frag} {mg : Str → Option Value} {base : Heap} {k : Nat} {f : Addr} {name qual : Str} {params : Arguments} {body : List Stmt} {scope : Scope} {dV kV doc pm cdv ct oc : Value} {an od : Option Addr}
    {osl : Array (Option Value)} {N ps : List Str} {sp : SpL} (lk : K.lookup f = some ⟨oc, od, .func (PySem.W.fnOf name qual params body scope dV kV doc pm an cdv ct), osl⟩) (hcd : PySem.W.codeIn K cdv qual = true)
    (S : FnScope N ps scope) (len : ∀ fs h vs H Q E, sp fs h vs H Q E → vs.length = ps.length)
    (hbody : ∀ (A : Around) (outer : List Env) (s : Shared) (H : Hp) (vs : List V) (Q : VK) (E : XK), RoomG k (A.deeper (envOfC qual scope s.heap.objs.size f cdv)) → sp (frs outer) s.heap vs H Q E →
      ∃ t, PSs (cxOf CX P w K mg base N qual scope f cdv A outer s H E) body t ∧ t { nx := fun _ H' => Q .non H', rt := Q } (start N vs) H) :
    FnGL P w K mg base CX (k + 1) f (PySem.W.fnOf name qual params body scope dV kV doc pm an cdv ct) ps sp := by
  refine ⟨len, fun A outer s H args us vs Q E hr e0 hb r hsp => ?_⟩
  have nl := len _ _ _ _ _ _ hsp
  have kin : K.In s.heap := e0.mod.kin.keeps fun b o e => (e0.bs b o e).1
  have nolim : s.heap.NoLimit := e0.mod.nolimit.keeps fun b o e => (e0.bs b o e).1
  have kinds : ∀ y ∈ ps.zip us, scope.names.lookup y.1 = some .local ∨ (scope.names.lookup y.1 = some .cell ∧ ((cellsFrom (s.heap.objs.size + 1) scope.names []).lookup y.1).isSome = true) := by
    rintro ⟨n, v⟩ hy
    rcases S.par n (List.of_mem_zip hy).1 with q | q
    · left; exact q
    · right; exact ⟨q, PySem.W.cellsFrom_some _ _ _ (.inl q)⟩
  refine codeAny_call_function hr.r.depth (kin _ _ lk) rfl S.co S.gen rfl (PySem.W.codeRec_of kin hcd) (hb _ _ _ _ ?_)
  refine wpAny_newFunctionEnv_cells S.kind kinds fun env he s1 x => ?_
  subst he
  refine ⟨nolim.keeps x.toInCall.keep, codeAny_func ?_⟩
  obtain ⟨t, ht, hq⟩ := hbody A outer s H vs Q E (hr.deeper _) hsp
  have I0 : Inv (cxOf CX P w K mg base N qual scope f cdv A outer s H E) [] (start N vs) H s1 := inv_start S hr.r.hd e0 nl r x
  refine wpAny_mono (ht.run [] s1 (start N vs) H _ I0 hq) (fun fl s' hs => ?_) fun _ _ hs => hs
  have done : ∀ {σ' : L2.St} {H' : Hp} {v : V} {u : Value}, Inv (cxOf CX P w K mg base N qual scope f cdv A outer s H E) [] σ' H' s' → RelV v u → Q v H' → CE outer P w H s Q u s' :=
    fun {_ H' v _} J rv q => ⟨v, H', J.os, J.bare, J.base, J.hok, rv, q⟩
  match fl, hs with
  | .ret u, ⟨v, σ', H', J, rv, q⟩ => exact done J rv q
  | .next, ⟨σ', H', J, q⟩ => exact done (v := V.non) (u := Value.none) J rfl q
  | .brk, ⟨_, _, _, q⟩ => exact False.elim q
  | .cont, ⟨_, _, _, q⟩ => exact False.elim q
section
variable {P : Program} {w : World} {K : PySem.W.Frag} {mg : Str → Option Value} {base : Heap}
theorem funGL {x qual : Str} {st : Stmt} {f : Addr} {fd : FuncData} {N ps : List Str} {k : Nat} {sp : SpL} (F : Fun K x qual st f fd) (S : FnScope N ps (defScope st)) (len : ∀ fs h vs H Q E, sp fs h vs H Q E → vs.length = ps.length)
    (hbody : ∀ (cdv : Value) (A : Around) (outer : List Env) (s : Shared) (H : Hp) (vs : List V) (Q : VK) (E : XK), RoomG k (A.deeper (envOfC qual (defScope st) s.heap.objs.size f cdv)) → sp (frs outer) s.heap vs H Q E →
      ∃ t, PSs (cxOf CX0 P w K mg base N qual (defScope st) f cdv A outer s H E).nox (defBody st) t ∧ t { nx := fun _ H' => Q .non H', rt := Q } (start N vs) H) : FnGL P w K mg base CX0 (k + 1) f fd ps sp := by
  obtain ⟨oc, od, kV, doc, pm, an, cdv, ct, osl, rfl, lk, hcd⟩ := F.ex
  exact fnGL_of lk hcd S len fun A outer s H vs Q E hr hsp => by
    obtain ⟨t, h, q⟩ := hbody cdv A outer s H vs Q E hr hsp
    exact ⟨t, h.nox, q⟩
theorem funGLX {x qual : Str} {st : Stmt} {f : Addr} {fd : FuncData} {N ps : List Str} {k : Nat} {sp : SpL} (F : Fun K x qual st f fd) (S : FnScope N ps (defScope st)) (len : ∀ fs h vs H Q E, sp fs h vs H Q E → vs.length = ps.length)
    (hbody : ∀ (cdv : Value) (A : Around) (outer : List Env) (s : Shared) (H : Hp) (vs : List V) (Q : VK) (E : XK), RoomG k (A.deeper (envOfC qual (defScope st) s.heap.objs.size f cdv)) → sp (frs outer) s.heap vs H Q E →
      ∃ t, PSs (cxOf (L2.CX P w) P w K mg base N qual (defScope st) f cdv A outer s H E) (defBody st) t ∧ t { nx := fun _ H' => Q .non H', rt := Q } (start N vs) H) : FnGL P w K mg base (L2.CX P w) (k + 1) f fd ps sp := by
  obtain ⟨oc, od, kV, doc, pm, an, cdv, ct, osl, rfl, lk, hcd⟩ := F.ex
  exact fnGL_of lk hcd S len fun A outer s H vs Q E hr hsp => hbody cdv A outer s H vs Q E hr hsp
end
/-- where a def's own frame stands: whatever is called from here starts so -/
def Down (X : Cx) (fs : List Addr) (h : Heap) (H : Hp) : Prop := ∃ pins σ s, Inv X pins σ H s ∧ fs = frs X.stack ∧ h = s.heap
def tCallW (X : Cx) (sp : SpL) (dvs : List V) (E : XK) (t : TA) : TE := fun σ H Q => t σ H fun vs H1 => ∀ fs h, Down X fs h H1 → sp fs h (vs ++ dvs) H1 Q E
/-- a lambda, then the others; a call with these -/
def tLamW (CXl : CXT) (X : Cx) (T : List (Addr × Str)) (k : Nat) (q : Str) (sp : SpL) (dvs : List V) (E : XK) (ta : TA) (t : XK → TE) : TE := fun σ H Q => Tabs T H ∧ ∀ f c' H1, ExtN H H1 → Tabs T H1 → H1 c' = some (CodeO c' q) →
  ta σ H1 fun vs H2 => ∀ fs h, Act CXl X.prog X.w X.K X.mg X.base k f fs H2 h (fun HZ => HZ c' = some (CodeO c' q)) (fun E' HZ Q' => t E' σ HZ Q') → sp fs h (.ref f :: vs ++ dvs) H2 Q E
section
variable {X : Cx} {CX CXl : CXT} {k : Nat} {f : Addr} {fd : FuncData} {ps : List Str} {sp : SpL} {dvs : List V} {ds : List Value} {E : XK} {x : Str} {p pos : Pos} {e : Expr} {es : List Expr} {t : TA}
theorem Act.go {n : Nat} {a : Addr} {G : Hp → Prop} {tl : XK → Hp → VK → Prop} {fs : List Addr} {h : Heap} {H : Hp} (hex : X.ex = []) (ac : Act CXl X.prog X.w X.K X.mg X.base n a X.fs X.H_0 X.s_0.heap G tl) (hs : X.stack = X.env :: X.outer) (hfm : X.env.frame = some X.env.locals) (D : Down X fs h H) :
    Act CXl X.prog X.w X.K X.mg X.base n a fs H h G tl := by
  obtain ⟨pins, σ, s, I, rfl, rfl⟩ := D
  exact ac.down hex hs hfm I
theorem runW {pins : List (Addr × Obj)} {σ : L2.St} {H : Hp} {s : Shared} {Q : VK} {us : List Value} {vs : List V} (F : FnGL X.prog X.w X.K X.mg X.base CX k f fd ps sp) (hr : RoomG k X.A) (hb : Binds X.K fd ps ds) (hd : Vals dvs ds)
    (hx : Passes CX X E) (I : Inv X pins σ H s) (r : Vals vs us) (h : sp (frs X.stack) s.heap (vs ++ dvs) H Q E) : wpAny (model X.prog X.w) X.A (call (.ref f) us) (EP X pins σ Q) X.xe s := by
  have rr : Vals (vs ++ dvs) (us ++ ds) := r.append hd
  have ll : (us ++ ds).length = ps.length := rr.length.symm.trans (F.len _ _ _ _ _ _ h)
  refine wpAny_call (codeAny_mono (F.run X.A X.stack s H ⟨us, []⟩ (us ++ ds) (vs ++ dvs) Q E hr I.env0 (hb s us I.kIn ll) rr h) fun r' s' hq => ?_)
  match r', hq with
  | .error er, hq => exact hx pins σ H s er s' I hq
  | .ok (.ret u), hq => exact I.after hq
  | .ok .next, hq => exact False.elim hq
  | .ok .brk, hq => exact False.elim hq
  | .ok .cont, hq => exact False.elim hq
theorem pe_callW (F : FnGL X.prog X.w X.K X.mg X.base CX k f fd ps sp) (hr : RoomG k X.A) (hg : Gl X x) (hm : X.mg x = some (.ref f)) (hk : PySem.W.keepIn X.K (.ref f) = true) (hb : Binds X.K fd ps ds) (hd : Vals dvs ds)
    (hx : Passes CX X E) (ha : PA X (e :: es) t) (hdb : (x == ("__debug__" : Str)) = false := by decide) (he : starEach (e :: es) X.env = (false, eval e X.env) :: starEach es X.env := by rfl)
    (hpl : (backTo pos (starEach es X.env)).any (·.1) = false := by rfl) : PE X (.Call (.Name x p) (e :: es) [] pos) (tCallW X sp dvs E t) :=
  ⟨fun pins s σ H Q I h => wpAny_Call_Name_kw (ld_glob I hg hm (PySem.W.callWith_K (h₀ := X.base) I.ok.mod.kin hk (thn (ha.run pos pins s σ H _ I h) fun us s1 ⟨vs, H1, I1, r, q⟩ => ⟨I1.kIn, runW F hr hb hd hx I1 r (q _ _ ⟨pins, σ, s1, I1, rfl, rfl⟩)⟩) he hpl) hdb)⟩
/-- x(lambda: body, es…) -/
theorem pe_lamW {j : Nat} {T : List (Addr × Str)} {c P : Addr} {params : Arguments} {body : Expr} {scope : Scope} {lpos : Pos} {tb : XK → TE} (F : FnGL X.prog X.w X.K X.mg X.base CX k f fd ps sp) (hr : RoomG k X.A) (hg : Gl X x) (hm : X.mg x = some (.ref f)) (hk : PySem.W.keepIn X.K (.ref f) = true) (hb : Binds X.K fd ps ds) (hd : Vals dvs ds)
    (hx : Passes CX X E) (ha : PA X es t) (TB : TabB X.base X.mg c P) (hcode : X.env.code = .ref c) (hmT : (P, X.env.qual ++ "<lambda>") ∈ T) (hu : ∀ p ∈ T, p.1 = P → p.2 = X.env.qual ++ "<lambda>") (L : LamS X.env.scope scope) (hdef : defaultsOf params X.env = ([], []))
    (hbind : ∀ (q : Str) (cl : List (Str × Addr)) (pm cv ctv : Value), bindArgs (PySem.W.kla_fn "<lambda>" q params body scope cl pm cv ctv) ⟨[], []⟩ = pure [])
    (hbody : ∀ (A : Around) (outer : List Env) (s : Shared) (H : Hp) (E : XK) (f c' : Addr), Room j (A.deeper (lamEnv X scope s.heap.objs.size f c')) → PE (lamCW CXl X A outer s H E scope f c') body (tb E))
    (hdb : (x == ("__debug__" : Str)) = false := by decide) (he : starEach (.Lambda params body scope lpos :: es) X.env = (false, eval (.Lambda params body scope lpos) X.env) :: starEach es X.env := by rfl)
    (hpl : (backTo pos (starEach es X.env)).any (·.1) = false := by rfl) : PE X (.Call (.Name x p) (.Lambda params body scope lpos :: es) [] pos) (tLamW CXl X T j (X.env.qual ++ "<lambda>") sp dvs E t tb) := by
  refine ⟨fun pins s σ H Q I h => ?_⟩
  obtain ⟨hT, h⟩ := h
  refine wpAny_Call_Name_kw (ld_glob I hg hm ?_ hdb)
  refine PySem.W.callWith_K (h₀ := X.base) I.ok.mod.kin hk ?_ he hpl
  rw [he]
  show wpAny _ _ (spliced ((false, eval (.Lambda params body scope lpos) X.env) :: backTo pos (starEach es X.env))) _ _ s
  refine Calls.spliced_cons (lam_make2 I TB hcode hmT hu hT hdef (L.has I.ok) fun a c' pm' ctv H1 s' I1 eN T1 hf hfn hfr hco => ?_)
  have hfs : a ∉ X.fs := fun z => hfr (by
    rcases I1.ok.stk with e1 | ⟨e1, e2⟩
    · rw [e1]; exact z
    · rw [e1]
      show a ∈ List.filterMap _ _
      rw [List.filterMap_cons, e2]; exact List.mem_cons_of_mem _ z)
  have hfl : a ≠ X.env.locals := fun z => by
    obtain ⟨m, ⟨o', es', ep, ho', hd', _⟩, _⟩ := I1.loc
    rw [← z, hf] at ho'
    cases ho'
    cases hd'
  have Ip : Inv X ((a, PySem.W.kla_obj "<lambda>" (X.env.qual ++ "<lambda>") params body scope (cloFrom X.env.cells scope.names []) pm' c' ctv) :: pins) σ H1 s' := I1.pins_of fun q hq => by
    rcases List.mem_cons.mp hq with z | z
    · subst z
      exact ⟨hf, hfn, hfl, hfs, fun v z => by cases z⟩
    · exact I1.pin q (List.mem_append_right _ z)
  refine thn (ha.run pos _ s' σ H1 _ Ip (h a c' H1 eN T1 hco)) fun us s2 ⟨vs, H2, I2, r, q⟩ => ?_
  have pin := I2.pin (a, PySem.W.kla_obj "<lambda>" (X.env.qual ++ "<lambda>") params body scope (cloFrom X.env.cells scope.names []) pm' c' ctv) (List.mem_append_right _ List.mem_cons_self)
  have I3 : Inv X pins σ H2 s2 := I2.pins_of fun q hq => I2.pin q (List.mem_append_right _ (List.mem_cons_of_mem _ hq))
  refine ⟨I3.kIn, ?_⟩
  have ac : Act CXl X.prog X.w X.K X.mg X.base j a (frs X.stack) H2 s2.heap (fun HZ => HZ c' = some (CodeO c' (X.env.qual ++ "<lambda>"))) (fun E' HZ Q' => tb E' σ HZ Q') :=
    act_of I3 L pin.1 pin.2.1 hfr (hbind _ _ _ _ _) fun A outer s H E hr2 => hbody A outer s H E a c' hr2
  exact runW (us := .ref a :: us) (vs := .ref a :: vs) F hr hb hd hx I3 (.cons rfl r) (q _ _ ac)
end
end Hw

set_option Elab.async false
set_option linter.all false
set_option maxRecDepth 100000
set_option maxHeartbeats 4000000
namespace Hw
open PySem PySem.Spec L2 PyProof PyProof.Rows LamX
section
variable {CXl : CXT} {X : Cx} {pins : List (Addr × Obj)} {σ : L2.St} {H : Hp} {s : Shared}
/-- a(), what it may let out read at the slots of the caller -/
theorem pe_actS {k i : Nat} {a : Str} {f : Addr} {G : Hp → Prop} {tl : XK → Hp → VK → Prop} {W : WX} {p1 p2 : Pos} (hex : X.ex = []) (ac : Act CXl X.prog X.w X.K X.mg X.base k f X.fs X.H_0 X.s_0.heap G tl) (hx : ∀ σ E, (∀ cls d H', E cls d H' → W cls d σ H') → PassesAt CXl X σ E) (hr : Room (k + 1) X.A)
    (hN : X.N[i]? = some a) (hv : Vis X.env.scope a) (hd : (a == ("__debug__" : Str)) = false := by decide) (hcd : (a == ("__classdict__" : Str)) = false := by decide) :
    PE X (.Call (.Name a p1) [] [] p2) (fun σ H Q => ∃ E Q1, (∀ cls d H', E cls d H' → W cls d σ H') ∧ (∀ v H', Q1 v H' → Q v H') ∧ σ[i]? = some (some (.ref f)) ∧ G H ∧ tl E H Q1) := by
  refine ⟨fun pins s σ H Q I h => ?_⟩
  obtain ⟨Ech, Q1, hW, hQ, hs, hg, ht⟩ := h
  refine wpAny_Call_Name_kw (thn ((pe_var (pos := p1) (i := i) hN hv hd hcd).run pins s σ H (fun v H1 => v = .ref f ∧ H1 = H) I ⟨.ref f, hs, rfl, rfl⟩) fun u s1 ⟨v, H1, I1, r1, ev, eH⟩ => ?_)
  subst ev
  rw [eH] at I1
  obtain rfl : u = Value.ref f := r1
  have ub : Un X.fs [] X.H_0 H X.s_0.heap s1.heap := by
    have := I1.base
    rwa [hex] at this
  obtain ⟨n, q, ps, b, sc, cl, pm, c, ct, e⟩ := ac.at_
  refine PySem.W.callWith_F0 ⟨_, _, _, _, ub.keep f _ e ac.free ac.out List.not_mem_nil⟩ ?_
  refine wpAny_call (codeAny_mono (ac.call X.A X.stack s1 H Q1 Ech hr I1.env0 ub hg ht) fun r s' hq => ?_)
  cases r with
  | error er => exact hx σ Ech hW pins H s1 er s' I1 hq
  | ok fl =>
    cases fl with
    | ret u =>
      obtain ⟨v, H', J, r, q⟩ := I1.after hq
      exact ⟨v, H', J, r, hQ _ _ q⟩
    | next => exact False.elim hq
    | brk => exact False.elim hq
    | cont => exact False.elim hq
/-- try: a() / except x as n: suite -/
theorem ps_heard {k i j : Nat} {a x n : Str} {c : Value} {f : Addr} {G : Hp → Prop} {tl : XK → Hp → VK → Prop} {Wout : WX} {suite : List Stmt} {b₀ : Stmt} {p1 p2 p3 np pos pos' : Pos} {ts : Addr → Value → Option Addr → TS} (hex : X.ex = []) (hs : X.stack = X.env :: X.outer) (hf : X.env.frame = some X.env.locals) (hN : X.N.Nodup)
    (hi : X.N[i]? = some n) (hln : X.env.kindOf n = some .local) (hc : Names X x c) (tk : Takes X Wout) (ac : Act (L2.CX X.prog X.w) X.prog X.w X.K X.mg X.base k f X.fs X.H_0 X.s_0.heap G tl) (hr : Room (k + 1) X.A) (hNa : X.N[j]? = some a) (hva : Vis X.env.scope a)
    (hsu : ∀ (a : Addr) (oe : Obj) (cls : Value) (d : Option Addr) (pn : List (Addr × Obj)), Zc cls d oe → (∃ vs, oe.data = .fields vs) → PSs (X.suite a ((a, oe) :: pn)) (b₀ :: suite) (ts a cls d))
    (hd : (a == ("__debug__" : Str)) = false := by decide) (hcd : (a == ("__classdict__" : Str)) = false := by decide) :
    PS X (.Try [.Expr (.Call (.Name a p1) [] [] p2) p3] [.ExceptHandler (some (.Name x np)) (some n) (b₀ :: suite) pos'] [] [] pos)
      (fun D σ H => ∃ E Q1, (∀ cls d H', E cls d H' → wAs X.K c i ts Wout D cls d σ H') ∧ (∀ v H', Q1 v H' → D.nx σ H') ∧ σ[j]? = some (some (.ref f)) ∧ G H ∧ tl E H Q1) :=
  ps_try_as (tb := fun W D σ H => ∃ E Q1, (∀ cls d H', E cls d H' → W cls d σ H') ∧ (∀ v H', Q1 v H' → D.nx σ H') ∧ σ[j]? = some (some (.ref f)) ∧ G H ∧ tl E H Q1) hs hf hN hi hln hc tk
    (fun W pn xe tk' _ => pss_one (ps_expr (pe_actS (X := X.tr pn xe) (i := j) hex ac (fun _ _ h _ _ _ e s' I z => tk' e s' (XE.of_call I h z)) hr hNa hva hd hcd))) hsu
/-- try: a() / except x as n: suite, the exception's context being None -/
theorem ps_heardN {k i j : Nat} {a x n : Str} {c : Value} {f : Addr} {G : Hp → Prop} {tl : XK → Hp → VK → Prop} {Wout : WX} {suite : List Stmt} {b₀ : Stmt} {p1 p2 p3 np pos pos' : Pos} {ts : Addr → Value → Option Addr → TS} (hex : X.ex = []) (hs : X.stack = X.env :: X.outer) (hf : X.env.frame = some X.env.locals) (hN : X.N.Nodup)
    (hi : X.N[i]? = some n) (hln : X.env.kindOf n = some .local) (hc : Names X x c) (tk : L2N.Takes X Wout) (ac : Act (L2N.CX X.prog X.w) X.prog X.w X.K X.mg X.base k f X.fs X.H_0 X.s_0.heap G tl) (hr : Room (k + 1) X.A) (hNa : X.N[j]? = some a) (hva : Vis X.env.scope a)
    (hsu : ∀ (a : Addr) (oe : Obj) (cls : Value) (d : Option Addr) (pn : List (Addr × Obj)), L2N.Zn cls d oe → (∃ vs, oe.data = .fields vs) → PSs (X.suite a ((a, oe) :: pn)) (b₀ :: suite) (ts a cls d))
    (hd : (a == ("__debug__" : Str)) = false := by decide) (hcd : (a == ("__classdict__" : Str)) = false := by decide) :
    PS X (.Try [.Expr (.Call (.Name a p1) [] [] p2) p3] [.ExceptHandler (some (.Name x np)) (some n) (b₀ :: suite) pos'] [] [] pos)
      (fun D σ H => ∃ E Q1, (∀ cls d H', E cls d H' → wAs X.K c i ts Wout D cls d σ H') ∧ (∀ v H', Q1 v H' → D.nx σ H') ∧ σ[j]? = some (some (.ref f)) ∧ G H ∧ tl E H Q1) :=
  L2N.ps_try_as (tb := fun W D σ H => ∃ E Q1, (∀ cls d H', E cls d H' → W cls d σ H') ∧ (∀ v H', Q1 v H' → D.nx σ H') ∧ σ[j]? = some (some (.ref f)) ∧ G H ∧ tl E H Q1) hs hf hN hi hln hc tk
    (fun W pn xe tk' _ => pss_one (ps_expr (pe_actS (X := X.tr pn xe) (i := j) hex ac (fun _ _ h _ _ _ e s' I z => tk' e s' (L2N.XE.of_call I h z)) hr hNa hva hd hcd))) hsu
end
end Hw

set_option Elab.async false
set_option linter.all false
set_option maxRecDepth 100000
set_option maxHeartbeats 4000000
namespace Hw
open PySem PySem.Spec L2 PyProof PyProof.Rows HotX
section
variable {prog : Program} {w : World} {A : Around} {E : Value → Shared → Prop} {s : Shared}
/-- a list's iterator ends while an exception is handled -/
theorem list_end_hot {it l x1 : Addr} {i : Nat} {items : Array Value} {Q : Option Value → Shared → Prop} (hot : HotAt A x1 s.heap) (hne : x1 ≠ it) (hit : s.heap.IsListIter it l i) (hl : s.heap.IsList l items) (hx : items[i]? = none)
    (hQ : ∀ h', (∀ b o, b ≠ it → s.heap.get? b = some o → h'.get? b = some o) → Q none { s with heap := h' }) : wpAny (model prog w) A (pyNext (.ref it)) Q E s := by
  obtain ⟨o, ho, hc, hd⟩ := id hit
  obtain ⟨ol, hol, _, nl, hdl⟩ := hl
  obtain ⟨hh, o1, vs1, h1, d1, c1⟩ := hot
  unfold pyNext
  refine wpAny_bind (wpAny_attempt (wpAny_callSpecial?_slot (name := Str.ofString "__next__") hit.typeIs slot_listiter_next
    (wpAny_call_entry slot_listiter_next hit.typeIs entry_listiter_next ?_ (args_listiter_next _))))
  show wpAny _ _ (field (.ref it) 0 >>= _) _ _ s
  refine wpAny_bind (wpAny_field ho hd (x := .ref l) rfl ?_)
  show wpAny _ _ (if (Value.ref l == Value.none) = true then _ else _) _ _ s
  rw [if_neg (show ¬ ((Value.ref l == Value.none) = true) from Bool.false_ne_true)]
  show wpAny _ _ (field (.ref it) 1 >>= _) _ _ s
  refine wpAny_bind (wpAny_field ho hd (x := .int i 0) rfl ?_)
  show wpAny _ _ (seqItems? (.ref l) >>= _) _ _ s
  refine wpAny_bind (wpAny_seqItems hol hdl ?_)
  simp only [Int.toNat_natCast, hx]
  refine wpAny_bind (wpAny_rule (wpAny_bind (wpAny_setField ho hd (by simp) ?_)))
  show wpAny _ _ (newExc (.type "StopIteration") [] >>= _) _ _ _
  refine wpAny_bind ?_
  simp only [newExc, newTuple]
  refine wpAny_bind (wpAny_newObj_type ?_ (by size_fits))
  refine wpAny_bind (m := firstArgMember _ _) (wpAny_of_eq (a := Value.none) (by first | rfl | (simp only [firstArgMember]; rfl)) ?_)
  refine wpAny_newObj_type ?_ (by size_fits)
  have hu := (Heap.get?_update_other s.heap (Obj.mapFields (·.setIfInBounds 0 Value.none)) (Ne.symm hne)).trans h1
  refine raiseNew_hot ⟨hh, o1, vs1, Heap.get?_push_of_some _ (Heap.get?_push_of_some _ hu), d1, c1⟩ (Nat.ne_of_lt (Heap.lt_size (Heap.get?_push_of_some _ hu))) (Heap.get?_push_size _ rfl) rfl (by first | (simp; done) | (simp; omega) | (simp only [Array.size_append]; simp; omega)) ?_
  refine wpAny_bind (wpAny_isInstance (T := "StopIteration") (b := true) ⟨_, Heap.get?_update_self _ (Heap.get?_push_size _ rfl) rfl, rfl⟩ isSubtype_stop ?_)
  refine wpAny_pure (hQ _ fun b o hb e => ?_)
  have eu := (Heap.get?_update_other s.heap (Obj.mapFields (·.setIfInBounds 0 Value.none)) (Ne.symm hb)).trans e
  rw [Heap.get?_update_other _ _ (Nat.ne_of_gt (Heap.lt_size (Heap.get?_push_of_some _ eu)))]
  exact Heap.get?_push_of_some _ (Heap.get?_push_of_some _ eu)
theorem keys_end_hot {it d x1 : Addr} {i n ep : Nat} {od : Obj} {es : Array DictEntry} {Q : Option Value → Shared → Prop} (hot : HotAt A x1 s.heap) (hne : x1 ≠ it) (hit : s.heap.IsKeyIter it d i n ep) (hod : s.heap.get? d = some od) (hdd : od.data = .dict es ep)
    (hsz : es.size = n) (hge : n ≤ i) (hQ : ∀ h', (∀ b o, b ≠ it → s.heap.get? b = some o → h'.get? b = some o) → Q none { s with heap := h' }) : wpAny (model prog w) A (pyNext (.ref it)) Q E s := by
  obtain ⟨o, ho, hc, hd⟩ := id hit
  obtain ⟨hh, o1, vs1, h1, d1, c1⟩ := hot
  unfold pyNext
  refine wpAny_bind (wpAny_attempt (wpAny_callSpecial?_slot (name := Str.ofString "__next__") hit.typeIs F.slot_dict_keyiterator_next
    (wpAny_call_entry F.slot_dict_keyiterator_next hit.typeIs F.entry_dict_keyiterator_next ?_ (F.args_dict_keyiterator_next_1 _))))
  refine wpAny_bind (wpAny_pure ?_)
  refine wpAny_bind ?_
  refine wpAny_bind ?_
  first | refine wpAny_bind (wpAny_typeNameOfWhole_keyiter hit.typeIs (wpAny_pure ?_)) | refine wpAny_bind (wpAny_typeNameOf_keyiter hit.typeIs (wpAny_pure ?_))
  refine wpAny_bind (wpAny_fieldsOf ho hd ?_)
  have hown : Builtin.Dict_items.ownsTuple "dict_keyiterator" = false := by decide
  simp only [hown, Bool.false_eq_true, if_false]
  show wpAny _ _ (if (Value.ref d == Value.none) = true then _ else _) _ _ s
  rw [if_neg (show ¬ ((Value.ref d == Value.none) = true) from Bool.false_ne_true)]
  refine wpAny_bind (wpAny_pure ?_)
  refine wpAny_bind (wpAny_dictEntries hod hdd ?_)
  rw [if_neg (by rw [hsz]; simp)]
  refine wpAny_bind (wpAny_pure ?_)
  refine wpAny_bind (wpAny_dictEpoch hod hdd ?_)
  rw [if_neg (by simp)]
  refine wpAny_pure ?_
  have hge' : es.size ≤ i := by rw [hsz]; exact hge
  simp only [show ¬ ((i : Int) < 0) from by omega, if_false, Int.toNat_natCast, Array.getElem?_eq_none hge']
  refine wpAny_bind ?_
  first | refine wpAny_bind (wpAny_typeNameOfWhole_keyiter hit.typeIs (wpAny_pure ?_)) | refine wpAny_bind (wpAny_typeNameOf_keyiter hit.typeIs (wpAny_pure ?_))
  show wpAny _ _ (setField (.ref it) 0 .none >>= _) _ _ s
  refine wpAny_bind (wpAny_setField ho hd (by simp) ?_)
  show wpAny _ _ (newExc (.type "StopIteration") [] >>= _) _ _ _
  refine wpAny_bind ?_
  simp only [newExc, newTuple]
  refine wpAny_bind (wpAny_newObj_type ?_ (by size_fits))
  refine wpAny_bind (m := firstArgMember _ _) (wpAny_of_eq (a := Value.none) (by first | rfl | (simp only [firstArgMember]; rfl)) ?_)
  refine wpAny_newObj_type ?_ (by size_fits)
  have hu := (Heap.get?_update_other s.heap (Obj.mapFields (·.setIfInBounds 0 Value.none)) (Ne.symm hne)).trans h1
  refine raiseNew_hot ⟨hh, o1, vs1, Heap.get?_push_of_some _ (Heap.get?_push_of_some _ hu), d1, c1⟩ (Nat.ne_of_lt (Heap.lt_size (Heap.get?_push_of_some _ hu))) (Heap.get?_push_size _ rfl) rfl (by first | (simp; done) | (simp; omega) | (simp only [Array.size_append]; simp; omega)) ?_
  refine wpAny_bind (wpAny_isInstance (T := "StopIteration") (b := true) ⟨_, Heap.get?_update_self _ (Heap.get?_push_size _ rfl) rfl, rfl⟩ isSubtype_stop ?_)
  refine wpAny_pure (hQ _ fun b o hb e => ?_)
  have eu := (Heap.get?_update_other s.heap (Obj.mapFields (·.setIfInBounds 0 Value.none)) (Ne.symm hb)).trans e
  rw [Heap.get?_update_other _ _ (Nat.ne_of_gt (Heap.lt_size (Heap.get?_push_of_some _ eu)))]
  exact Heap.get?_push_of_some _ (Heap.get?_push_of_some _ eu)
end
/-- one turn of an iterator, also while an exception is handled -/
structure TurnW (P : Program) (w : World) (K : PySem.W.Frag) (tg : Expr) (J : It) (fp : List Addr) (it : Addr) (tn : Nat → Heap → Prop) : Prop where
  mem : it ∈ fp
  obj : ∀ i h, tn i h → ∀ b ∈ fp, ∃ o, h.get? b = some o ∧ ∀ v, o.data ≠ .cell v
  keep : ∀ i h h', tn i h → (∀ b ∈ fp, ∀ o, h.get? b = some o → h'.get? b = some o) → tn i h'
  item : ∀ (X : Cx), X.prog = P → X.w = w → X.K = K → ∀ (i : Nat) (pins : List (Addr × Obj)) (s : Shared) (σ : L2.St) (H : Hp) (E : Value → Shared → Prop), Inv X pins σ H s → (∀ b ∈ fp, FpOk X pins H b) → tn i s.heap → J.go i H →
    wpAny (model P w) X.A (pyNext (.ref it)) (fun r s1 => ∃ u, r = some u ∧
      wpAny (model P w) X.A (letOwnedTupleGo tg (.ref it) u) (fun _ s2 => ∃ x H', Inv X pins σ H' s2 ∧ RelV x u ∧ J.yld i H x H' ∧ tn (i + 1) s2.heap ∧ ∀ b ∈ fp, H' b = none) E s1) E s
  done : ∀ (X : Cx), X.prog = P → X.w = w → X.K = K → ∀ (x1 : Addr) (i : Nat) (pins : List (Addr × Obj)) (s : Shared) (σ : L2.St) (H : Hp) (E : Value → Shared → Prop), Inv X pins σ H s → HotAt X.A x1 s.heap → (∀ b ∈ fp, x1 ≠ b) → (∀ b ∈ fp, FpOk X pins H b) → tn i s.heap → J.stop i H →
    wpAny (model P w) X.A (pyNext (.ref it)) (fun r s1 => r = none ∧ Inv X pins σ H s1) E s
  self : ∀ (A : Around) (i : Nat) (s : Shared) (Q : Value → Shared → Prop) (E : Value → Shared → Prop), tn i s.heap → Q (.ref it) s → wpAny (model P w) A (pyIter (.ref it)) Q E s
theorem turn_listW {P : Program} {w : World} {K : PySem.W.Frag} {tg : Expr} (a it : Addr) : TurnW P w K tg (Itl K a) [it] it (fun i h => h.IsListIter it a i) where
  mem := by simp
  obj := fun i h st b hb => by
    have e : b = it := by simpa using hb
    subst e
    obtain ⟨o, e, c, d⟩ := st
    exact ⟨o, e, fun v z => by rw [d] at z; cases z⟩
  keep := fun i h h' st k => st.at fun o e => k it (by simp) o e
  item := by
    intro X hP hw hK i pins s σ H E I hf st hg
    subst hP hw hK
    obtain ⟨xs, x, hq, hx⟩ := hg
    obtain ⟨its, rv, p, hz⟩ := I.list hq
    obtain ⟨u, hu, ru⟩ := rv.get hx
    obtain ⟨f0, f1, f2, f3, f4, f5⟩ := hf it (by simp)
    refine wpAny_pyNext_list_item st p.isList (x := u) (by simpa using hu) fun h' st' sb => ?_
    have I1 : Inv X pins σ H { s with heap := h' } := I.turned (t' := s.toks) (fun b o hb e => (sb.2 b hb).trans e) f0 f1 f3 f4 f5
    obtain ⟨o, e, c, d⟩ := id st'
    exact ⟨u, rfl, go_of (s := { s with heap := h' }) e c d (by decide) ⟨x, H, I1, ru, ⟨rfl, fun ys hy => by rw [I.list_inj hy hq]; exact hx⟩, st', fun b hb => (hf b hb).1⟩⟩
  done := by
    intro X hP hw hK x1 i pins s σ H E I hot hne hf st hg
    subst hP hw hK
    obtain ⟨xs, hq, hx⟩ := hg
    obtain ⟨its, rv, p, hz⟩ := I.list hq
    obtain ⟨f0, f1, f2, f3, f4, f5⟩ := hf it (by simp)
    have hl := rv.length
    exact list_end_hot hot (hne it (by simp)) st p.isList (by simp; omega) fun h' eb => ⟨rfl, I.turned (t' := s.toks) (fun b o hb e => eb b o hb e) f0 f1 f3 f4 f5⟩
  self := fun _ _ _ _ _ st h => wpAny_pyIter_listiter st h
section
variable {P : Program} {w : World} {K : PySem.W.Frag} {tg : Expr} {d : Addr} {o : Obj} {es : Array DictEntry} {ep : Nat}
theorem turn_keysW {kvs : List (Key × V)} (it : Addr) (hod : o.data = .dict es ep) : TurnW P w K tg (Itk d o kvs) [it] it (fun i h => h.IsKeyIter it d i kvs.length ep) where
  mem := by simp
  obj := fun i h st b hb => by
    have e : b = it := by simpa using hb
    subst e
    obtain ⟨oi, e, c, dd⟩ := st
    exact ⟨oi, e, fun v z => by rw [dd] at z; cases z⟩
  keep := fun i h h' st k => st.at fun oi e => k it (by simp) oi e
  item := by
    intro X hP hw hK i pins s σ H E I hf st hg
    subst hP hw hK
    obtain ⟨hd, hi⟩ := hg
    obtain ⟨f0, f1, f2, f3, f4, f5⟩ := hf it (by simp)
    obtain ⟨hs, hgd, hx, es', ep', vs, hdt, hsz, kv, hm⟩ := I.frzK hd
    obtain ⟨rfl, rfl⟩ := dict_ep hod hdt
    obtain ⟨⟨k, v⟩, hkv⟩ : ∃ p, kvs[i]? = some p := ⟨kvs[i], List.getElem?_eq_getElem hi⟩
    obtain ⟨u, hu, ru⟩ := kv_get kv hkv
    have hl : kvs.length = vs.length := Paired.length kv
    rw [hl] at st
    refine wpAny_pyNext_dict_item st hm hu fun key h' hkey st' sb => ?_
    have I1 : Inv X pins σ H { s with heap := h' } := I.turned (t' := s.toks) (fun b ob hb e => (sb.2 b hb).trans e) f0 f1 f3 f4 f5
    obtain ⟨oi, e, c, dd⟩ := id st'
    refine ⟨key, rfl, go_of (s := { s with heap := h' }) e c dd (by decide) ⟨kV k, H, I1, relV_key (show keyIs k key = true from hkey), ⟨rfl, k, v, hkv, rfl⟩, ?_, fun b hb => (hf b hb).1⟩⟩
    show h'.IsKeyIter it d (i + 1) kvs.length _
    rw [hl]
    exact st'
  done := by
    intro X hP hw hK x1 i pins s σ H E I hot hne hf st hg
    subst hP hw hK
    obtain ⟨hd, hi⟩ := hg
    obtain ⟨f0, f1, f2, f3, f4, f5⟩ := hf it (by simp)
    obtain ⟨hs, hgd, hx, es', ep', vs, hdt, hsz, kv, hm⟩ := I.frzK hd
    obtain ⟨rfl, rfl⟩ := dict_ep hod hdt
    exact keys_end_hot hot (hne it (by simp)) st hgd hdt hsz hi fun h' eb => ⟨rfl, I.turned (t' := s.toks) (fun b ob hb e => eb b ob hb e) f0 f1 f3 f4 f5⟩
  self := fun A i s Q E st h => wpAny_pyIter_keyiter st h
end
end Hw

set_option Elab.async false
set_option linter.all false
set_option maxRecDepth 100000
set_option maxHeartbeats 4000000
namespace Hw
open PySem PySem.Spec L2 PyProof PyProof.Rows HotX
def PIEW (X : Cx) (pins : List (Addr × Obj)) (σ : L2.St) (tg : Expr) (R : It → Hp → Prop) (itv : Value) (s2 : Shared) : Prop :=
  ∃ (it : Addr) (fp : List Addr) (tn : Nat → Heap → Prop) (J : It) (H' : Hp), itv = .ref it ∧ Inv X pins σ H' s2 ∧ TurnW X.prog X.w X.K tg J fp it tn ∧ tn 0 s2.heap ∧ (∀ b ∈ fp, FpOk X pins H' b) ∧ R J H'
/-- what is walked, also while an exception is handled -/
structure PIW (X : Cx) (tg iter : Expr) (wi : TI) : Prop where
  run : ∀ (pins : List (Addr × Obj)) (s : Shared) (σ : L2.St) (H : Hp) (R : It → Hp → Prop), Inv X pins σ H s → wi σ H R →
    wpAny (model X.prog X.w) X.A (eval iter X.env) (fun v s1 => wpAny (model X.prog X.w) X.A (pyIter v) (PIEW X pins σ tg R) X.xe s1) X.xe s
/-- the keys of a locked dict -/
def iKeysW (td : TE) : TI := fun σ H R => td σ H fun x H1 => ∃ d o kvs, x = .ref d ∧ H1 d = some (.frz o (.dK kvs)) ∧ R (Itk d o kvs) H1
section
variable {X : Cx} {tg e : Expr} {td : TE}
theorem pi_listW {l : Expr} {tl : TE} (hl : PE X l tl) : PIW X tg l (iList X.K tl) := by
  refine ⟨fun pins s σ H R I h => ?_⟩
  refine thn (hl.run pins s σ H _ I h) fun v s1 ⟨x, H1, I1, r1, q1⟩ => ?_
  obtain ⟨a, e, ⟨xs, hq⟩, q⟩ := q1
  subst e
  cases r1
  obtain ⟨its, rv, p, hz⟩ := I1.list hq
  refine wpAny_pyIter_list p.isList ?_
  refine ⟨s1.heap.objs.size, [s1.heap.objs.size], _, _, H1, rfl, I1.kept (t' := s1.toks) fun b o e => Heap.get?_push_of_some _ e, turn_listW a _, ⟨_, Heap.get?_push_size _ rfl, rfl, rfl⟩, fun b hb => ?_, q⟩
  have e : b = s1.heap.objs.size := by simpa using hb
  subst e
  exact I1.fpOk (Nat.le_refl _) (I1.hok.fresh (Nat.le_refl _))
theorem pi_keysW (he : PE X e td) : PIW X tg e (iKeysW td) := by
  refine ⟨fun pins s σ H R I h => ?_⟩
  refine thn (he.run pins s σ H _ I h) fun u s1 ⟨x, H1, I1, rx, d, o, kvs, ex, hd, q⟩ => ?_
  subst ex
  obtain rfl : u = Value.ref d := rx
  obtain ⟨hs, hgd, hx, es, ep, vs, hdt, hsz, kv, hm⟩ := I1.frzK hd
  refine iter_keys hs hgd hx hdt ?_
  refine ⟨s1.heap.objs.size, [s1.heap.objs.size], _, _, H1, rfl, I1.kept (t' := s1.toks) fun b o e => Heap.get?_push_of_some _ e, turn_keysW _ hdt, ⟨_, Heap.get?_push_size _ rfl, rfl, ?_⟩, fun b hb => ?_, q⟩
  · rw [hsz] <;> rfl
  · have e : b = s1.heap.objs.size := by simpa using hb
    subst e
    exact I1.fpOk (Nat.le_refl _) (I1.hok.fresh (Nat.le_refl _))
end
section
variable {X : Cx}
theorem lc_coreW {pins : List (Addr × Obj)} {s : Shared} {σ : L2.St} {H : Hp} {Q : VK} {elt tg iter : Expr} {ifs : List Expr} {scope : Scope} {own : List (Str × Nat)} {pos pos' : Pos} {wi : TI} {g : TG} {tt : TT} {te : TE} {use : Option (Value → Sem Unit)} {Qf : Value → Shared → Prop}
    (hc : L2H.HotC X) (hN : X.N.Nodup) (I : Inv X pins σ H s) (hi : PIW X tg iter wi) (ok : BlkOk X.N X.env.scope scope own)
    (hg : ∀ (s : Shared) (H : Hp) (C : Addr) (cl : List (Str × Addr)) (fp : List Addr), PG (X.blk s H scope (compEnvC scope cl C X.env) fp) tg g) (ht : ∀ (s : Shared) (H : Hp) (C : Addr) (cl : List (Str × Addr)) (fp : List Addr), PTs (X.blk s H scope (compEnvC scope cl C X.env) fp) ifs tt)
    (he : ∀ (s : Shared) (H : Hp) (C : Addr) (cl : List (Str × Addr)) (fp : List Addr), PE (X.blk s H scope (compEnvC scope cl C X.env) fp) elt te) (hs : ∀ x, foldedSetIterable iter X.env x = pure x)
    (h : tLc wi g tt te (own.map (·.2)) σ H Q)
    (hRR : ∀ D C s' m H', Inv X pins σ H' s' → Q (.ref D) H' → s'.heap.Ns C m → FpOk X pins H' C → compPost (model X.prog X.w) X.A X.xe use Qf (.ref D) C (.ok .next) s') :
    wpAny (model X.prog X.w) X.A (comprehension (.ListComp elt [⟨tg, iter, ifs, 0⟩] scope pos) scope X.env pos' (newList []) false (eval iter X.env) use) Qf X.xe s := by
  have hfree : ∀ y ∈ scope.names, y.2 = .free → ∃ c, X.env.cells.lookup y.1 = some c := fun y hy e => by
    rcases ok.free y hy e with k | k
    · exact I.ok.has _ (.inl k)
    · exact I.ok.has _ (.inr k)
  refine wpAny_comprehension_free (use := use) rfl hs (closure_ok hfree) ok.kind (fun y hy e => by rw [ok.uniq y hy, e])
    (thn (hi.run pins s σ H _ I h) fun xv s1 hx => thn hx fun itv s2 h2 => ?_)
  obtain ⟨it, fp, tn, J, H2, e, I2, T, st2, f2, q⟩ := h2
  subst e
  refine wpAny_newObj_type (newEnv_comp ?_) (by show 0 ≤ sizeLine; decide)
  generalize hD : s2.heap.objs.size = D
  have hDn : H2 D = none := I2.hok.fresh (Nat.le_of_eq hD)
  obtain ⟨W, ⟨m0, w0⟩, turn⟩ := q D hDn
  -- the new list
  generalize hs3 : ({ s2 with heap := s2.heap.push { cls := .type "list", data := .seq ([] : List Value).toArray } } : Shared) = s3
  have I3 : Inv X pins σ (upd H2 D (.lst [])) s3 := by
    rw [← hs3]
    refine I2.laid (t' := s2.toks) (fun b o e => Heap.get?_push_of_some _ e) (Nat.le_of_eq hD) ⟨Nat.zero_le _, [], 0, .nil, ?_⟩
    rw [← hD]
    exact Heap.get?_push_size _ rfl
  have h3 : s3.heap = s2.heap.push { cls := .type "list", data := .seq ([] : List Value).toArray } := by rw [← hs3]
  have sz : ∀ b ∈ fp, b < s2.heap.objs.size := fun b hb => by
    obtain ⟨o, e, _⟩ := T.obj _ _ st2 b hb
    exact Heap.lt_size e
  have f3 : ∀ b ∈ fp, FpOk X pins (upd H2 D (.lst [])) b ∧ b < s3.heap.objs.size := fun b hb => by
    have hlt := sz b hb
    refine ⟨⟨?_, (f2 b hb).2⟩, by rw [h3, Heap.size_push]; exact Nat.lt_succ_of_lt hlt⟩
    rw [upd_ne (by rw [← hD]; exact Nat.ne_of_lt hlt)]
    exact (f2 b hb).1
  have st3 : tn 0 s3.heap := T.keep _ _ _ st2 fun b _ o e => by rw [h3]; exact Heap.get?_push_of_some _ e
  have I4 := block_start I3 ok hN f3
  have pg := hg s3 (upd H2 D (.lst [])) s3.heap.objs.size (cellsFrom (s3.heap.objs.size + 1) scope.names (cloFrom X.env.cells scope.names [])) fp
  have pt := ht s3 (upd H2 D (.lst [])) s3.heap.objs.size (cellsFrom (s3.heap.objs.size + 1) scope.names (cloFrom X.env.cells scope.names [])) fp
  have pe := he s3 (upd H2 D (.lst [])) s3.heap.objs.size (cellsFrom (s3.heap.objs.size + 1) scope.names (cloFrom X.env.cells scope.names [])) fp
  show codeAny _ _ (.compStart (.ListComp elt [⟨tg, iter, ifs, 0⟩] scope pos) 0 (.ref it) (.ref D) (compEnvC scope (cellsFrom (s3.heap.objs.size + 1) scope.names (cloFrom X.env.cells scope.names [])) s3.heap.objs.size X.env)) (compPost (model X.prog X.w) X.A X.xe use Qf (.ref D) s3.heap.objs.size) { s3 with heap := pushCells (s3.heap.push { cls := .type "dict", data := .dict #[] }) scope.names }
  have nfp : ∀ b ∈ fp, (upd H2 D (.lst [])) b = none := fun b hb => (f3 b hb).1.1
  generalize hce : compEnvC scope (cellsFrom (s3.heap.objs.size + 1) scope.names (cloFrom X.env.cells scope.names [])) s3.heap.objs.size X.env = ce at I4 pg pt pe ⊢
  obtain ⟨p, hot1, hp⟩ := hc
  have cL : ce.locals = s3.heap.objs.size := by subst hce; rfl
  generalize hH3 : upd H2 D (.lst []) = H3 at I3 I4 pg pt pe w0 nfp f3
  generalize hs4 : ({ s3 with heap := pushCells (s3.heap.push { cls := .type "dict", data := .dict #[] }) scope.names } : Shared) = s4 at I4 ⊢
  have I4 : Inv (X.blk s3 H3 scope ce fp) [p] (wipe σ (own.map (·.2))) H3 s4 := I4.pins_of fun q hq => by
    have eq : q = p := List.mem_singleton.mp hq
    subst eq
    obtain ⟨g, n, nl, nf, nc⟩ := I3.pin q (List.mem_append_left _ hp)
    refine ⟨by rw [← hs4]; exact pushCells_keeps _ _ _ _ (Heap.get?_push_of_some _ g), n, fun z => ?_, fun z => ?_, nc⟩
    · have lt := Heap.lt_size g
      rw [z] at lt
      exact absurd (show ce.locals < s3.heap.objs.size from lt) (by rw [cL]; exact Nat.lt_irrefl _)
    · rcases List.mem_cons.mp (I3.stkSub _ z) with z | z
      · exact nl z
      · exact nf z
  have hot : ∀ {σ' : L2.St} {H' : Hp} {s' : Shared}, Inv (X.blk s3 H3 scope ce fp) [p] σ' H' s' → HotAt X.A p.1 s'.heap := fun {σ' H' s'} I' => by
    obtain ⟨hh, vs, d, c⟩ := hot1
    exact ⟨hh, p.2, vs, (I'.pin p (by simp)).1, d, c⟩
  have st4 : tn 0 s4.heap := T.keep _ _ _ st3 fun b _ o e => by rw [← hs4]; exact pushCells_keeps _ _ _ _ (Heap.get?_push_of_some _ e)
  have stat : ∀ {σ' : L2.St} {H' : Hp} {s' : Shared}, Inv (X.blk s3 H3 scope ce fp) [p] σ' H' s' → (∀ b ∈ fp, H' b = none) → ∀ b ∈ fp, FpOk (X.blk s3 H3 scope ce fp) [p] H' b := fun {σ' H' s'} I' hn b hb =>
    ⟨hn b hb, (I'.ok.exf b hb).1, I'.ok.exfs b hb, .inl hb, fun x c e => (I'.ok.exf b hb).2 x c e, fun q hq => by
      have e : q = p := List.mem_singleton.mp hq
      rw [e]
      exact (f3 b hb).1.2.2.2.2.2 p (List.mem_append_left _ hp)⟩
  have loop : codeAny (model X.prog X.w) X.A (.compLoop (.ListComp elt [⟨tg, iter, ifs, 0⟩] scope pos) 0 (.ref it) (.ref D) ce) (compPost (model X.prog X.w) X.A X.xe use Qf (.ref D) s3.heap.objs.size) s4 := by
    refine compLoop_any (fun n s' => ∃ i H', Inv (X.blk s3 H3 scope ce fp) [p] (wipe σ (own.map (·.2))) H' s' ∧ tn i s'.heap ∧ (∀ b ∈ fp, H' b = none) ∧ W i n H') ?_ m0 ⟨0, H3, I4, st4, nfp, w0⟩
    rintro n s5 ⟨i, H5, I5, st5, n5, w5⟩
    rcases turn i n H5 w5 with ⟨stop, qq⟩ | ⟨go, Nx, hNx, step⟩
    · have td := T.done (X.blk s3 H3 scope ce fp) rfl rfl rfl p.1 i [p] s5 _ H5 (fun _ _ => False) I5 (hot I5) (fun b hb => (f3 b hb).1.2.2.2.2.2 p (List.mem_append_left _ hp)) (stat I5 n5) st5 stop
      refine thnF td fun r s6 ⟨hr, I6⟩ => ?_
      subst hr
      -- back in the def's context
      have I7 : Inv X pins σ H5 s6 := I3.call' (ch := fp) I6.os I6.base I6.hok I6.bare fun b hb => ⟨(f3 b hb).1.2.2.2.1, (f3 b hb).1.2.1, (f3 b hb).1.2.2.2.2.1, (f3 b hb).1.2.2.2.2.2⟩
      have nC : H5 s3.heap.objs.size = none := by
        have z : H5 ce.locals = none := I6.free
        rw [cL] at z
        exact z
      obtain ⟨m, hn, _⟩ := I6.loc
      have hn : s6.heap.Ns ce.locals m := hn
      rw [cL] at hn
      exact hRR D s3.heap.objs.size s6 m H5 I7 qq hn (I3.fpOk (Nat.le_refl _) nC)
    · have ti := T.item (X.blk s3 H3 scope ce fp) rfl rfl rfl i [p] s5 _ H5 (fun _ _ => False) I5 (stat I5 n5) st5 go
      refine thnF ti fun r s6 ⟨u, hr, h6⟩ => ?_
      subst hr
      refine thnF h6 fun _ s7 ⟨x, H7, I7, r7, y7, st7, n7⟩ => ?_
      have I7' := I7.pinned (stat I7 n7) (T.obj _ _ st7)
      refine thnF (pg.run _ s7 _ H7 x u _ I7' r7 (step x H7 y7)) fun _ s8 ⟨σ8, H8, I8, hw8, q8⟩ => ?_
      refine thnF (pt.run _ s8 σ8 H8 _ I8 q8) fun b s9 ⟨H9, I9, q9⟩ => ?_
      -- the turn's end
      have fin : ∀ {s' : Shared} {H' : Hp}, Inv (X.blk s3 H3 scope ce fp) ([p] ++ pinsAt fp s7.heap) σ8 H' s' → Nx H' → ∃ m, m < n ∧ ∃ i H', Inv (X.blk s3 H3 scope ce fp) [p] (wipe σ (own.map (·.2))) H' s' ∧ tn i s'.heap ∧ (∀ b ∈ fp, H' b = none) ∧ W i m H' := fun {s' H'} I' nx => by
        obtain ⟨m', hm, w'⟩ := hNx H' nx
        have pin' : ∀ b ∈ fp, ∀ o, s7.heap.get? b = some o → s'.heap.get? b = some o ∧ H' b = none := fun b hb o e =>
          let z := I'.pin (b, o) (List.mem_append_right _ (List.mem_append_right _ (mem_pinsAt hb e)))
          ⟨z.1, z.2.1⟩
        have hl : (wipe σ (own.map (·.2))).length = σ8.length := by rw [← hw8, wipe_length]
        refine ⟨m', hm, i + 1, H', (I'.unpinned (pins := [p])).weak hl (fun j v e => ?_), T.keep _ _ _ st7 fun b hb o e => (pin' b hb o e).1, fun b hb => ?_, w'⟩
        · rw [← hw8] at e
          exact (wipe_some e).1
        · obtain ⟨o, e, _⟩ := T.obj _ _ st7 b hb
          exact (pin' b hb o e).2
      cases b with
      | false =>
        simp only [Bool.false_eq_true, if_false] at q9 ⊢
        exact fin I9 q9
      | true =>
        simp only [if_true] at q9 ⊢
        refine thnF (pe.run _ s9 σ8 H9 _ I9 q9) fun z s10 ⟨yv, H10, I10, r10, acc, hD10, hz10, nx⟩ => ?_
        exact app_ok (X := X.blk s3 H3 scope ce fp) I10 hD10 hz10 r10 fun s11 I11 => fin I11 nx
  exact codeAny_compStart_list loop (T.self X.A 0 _ _ _ st4 loop)
theorem pe_lcW {elt tg iter : Expr} {ifs : List Expr} {scope : Scope} {own : List (Str × Nat)} {pos : Pos} {wi : TI} {g : TG} {tt : TT} {te : TE} (hc : L2H.HotC X) (hN : X.N.Nodup) (hi : PIW X tg iter wi) (ok : BlkOk X.N X.env.scope scope own)
    (hg : ∀ (s : Shared) (H : Hp) (C : Addr) (cl : List (Str × Addr)) (fp : List Addr), PG (X.blk s H scope (compEnvC scope cl C X.env) fp) tg g) (ht : ∀ (s : Shared) (H : Hp) (C : Addr) (cl : List (Str × Addr)) (fp : List Addr), PTs (X.blk s H scope (compEnvC scope cl C X.env) fp) ifs tt)
    (he : ∀ (s : Shared) (H : Hp) (C : Addr) (cl : List (Str × Addr)) (fp : List Addr), PE (X.blk s H scope (compEnvC scope cl C X.env) fp) elt te) (hs : ∀ x, foldedSetIterable iter X.env x = pure x := by intro _; rfl) :
    PE X (.ListComp elt [⟨tg, iter, ifs, 0⟩] scope pos) (tLc wi g tt te (own.map (·.2))) := by
  refine ⟨fun pins s σ H Q I h => ?_⟩
  rw [eval_ListComp]
  refine lc_coreW hc hN I hi ok hg ht he hs h fun D C s' m H' I' q hn f => ⟨m, hn, fun h'' sb => ?_⟩
  obtain ⟨f0, f1, f2, f3, f4, f5⟩ := f
  exact ⟨.ref D, H', I'.turned (t' := s'.toks) (fun b o hb e => (sb.2 b hb).trans e) f0 f1 f3 f4 f5, rfl, q⟩
end
end Hw

set_option Elab.async false
set_option linter.all false
set_option maxRecDepth 100000
set_option maxHeartbeats 4000000
namespace Hw
open PySem PySem.Spec L2 PyProof PyProof.Rows
/-- within an except suite the exception is handled -/
theorem hot_suite {X : Cx} {a : Addr} {oe : Obj} {pn : List (Addr × Obj)} {cls : Value} {d : Option Addr} (hz : L2N.Zn cls d oe) (hf : ∃ vs, oe.data = .fields vs) : L2H.HotC (X.suite a ((a, oe) :: pn)) := by
  obtain ⟨vs, e⟩ := hf
  exact ⟨(a, oe), ⟨rfl, vs, e, hz.2.2 vs e⟩, List.mem_cons_self⟩
section
open PySem.W PySem.Calls
variable {prog : Program} {w : World} {A : Around} {E : Value → Shared → Prop} {s : Shared} {K : Frag} {x D : Addr} {ox : Obj}
/-- the class of a caught error that has fields -/
theorem classOf_caught {od : Obj} {Q : Option Value → Shared → Prop} (hga : findIn K (.ref D) "__getattribute__" = some (some (.builtin "BaseException.__getattribute__"))) (hgt : findIn K (.ref D) "__getattr__" = some none) (hsub : subIn K (.ref D) (.type "BaseException") = some true)
    (hdct : hasDictIn K D = true) (ha : findIn K (.ref D) "__class__" = some (some (.builtin "object.__class__")))
    (hn : specialIn K (.builtin "object.__class__") "__get__" = some (some (.builtin "getset_descriptor.__get__"))) (htk : takesIn K (.builtin "object.__class__") = some true) (hm : mroIn K D (.type "object") = some true)
    (X : K.In s.heap) (I : InstAt s.heap x ox D (some od)) (h : Q (some (.ref D)) { s with toks := s.toks + 1 }) : wpAny (model prog w) A (getAttr? (.ref x) "__class__") Q E s := by
  have hf : findObj K D (some od) "__class__" = some (.bind (.builtin "getset_descriptor.__get__") (.builtin "object.__class__")) := findObj_data (by obtain ⟨cd, hc, _⟩ := any_some hdct; rw [hc]; rfl) ha hn htk
  obtain ⟨hp, g, d, t, os⟩ := s
  have L0 := I.type (M := model prog w)
  have L1 := looks_findIn (M := model prog w) X hga
  have L2 := looks_findIn (M := model prog w) X hgt
  have L3 := looks_find (M := model prog w) X I hf
  have sub : Looks (model prog w) hp (isInstance (.ref x) (.type "BaseException")) true := L0.andThen (looks_subIn X hsub)
  have hx0 : (false && onTheHeap (Value.builtin "BaseException.__getattribute__")) = false := rfl
  have hx2 : (Value.builtin "BaseException.__getattribute__" == Value.builtin "object.__getattribute__") = false := by decide +kernel
  have hx1 : (onTheHeap (Value.ref D) && Value.builtin "BaseException.__getattribute__" == Value.builtin "object.__getattribute__") = false := by rw [hx2]; rfl
  unfold getAttr? getAttrBy? getAttrBy
  refine wpAny_bind (wpAny_mkText (wpAny_bind (wpAny_attempt (wpAny_holding (wpAny_bind (L0.at (wpAny_bind (L1.at ?_))))))))
  show wpAny _ _ (if (onTheHeap (Value.ref D) && Value.builtin "BaseException.__getattribute__" == Value.builtin "object.__getattribute__") = true then _ else _) _ _ _
  rw [hx1, if_neg Bool.false_ne_true]
  unfold getAttrByItsOwn hookBefore
  refine wpAny_bind ?_
  rw [if_pos (show onTheHeap (Value.ref D) = true from rfl)]
  refine L2.at ?_
  refine wpAny_bind (wpAny_attempt (wpAny_holding ?_))
  unfold callGetattribute
  rw [hx0, if_neg Bool.false_ne_true]
  unfold boundAndCalled
  rw [PySem.F.excAttr_ValueError.ga.bind (.ref x)]
  refine wpAny_bind (wpAny_pure ?_)
  show wpAny _ _ (call (.builtin "BaseException.__getattribute__") [.ref x, .str "__class__" t]) _ _ _
  refine wpAny_call (codeAny_call_builtin PySem.F.excAttr_ValueError.ga.plain PySem.F.entry_bexc_ga ?_)
  refine @check_slot (model prog w) _ _ ⟨hp, g, d, t + 1, os⟩ "BaseException.__getattribute__" "BaseException" "__getattribute__" (.ref x) [.str "__class__" t] [] _ (by decide +kernel) (by decide +kernel) sub (PySem.F.args_bexc_ga (.ref x) (.str "__class__" t)) ?_
  unfold Builtin.«object.__getattribute__»
  refine wpAny_bind (wpAny_of_eq (a := ((Value.ref x : Value), [Value.str "__class__" t])) (by first | rfl | (simp only [slotArgs]; rfl)) ?_)
  refine wpAny_bind (wpAny_pure (wpAny_bind (L0.at (wpAny_bind (L3.at ?_)))))
  show wpAny _ _ (holding [Value.builtin "object.__class__"] (call (.builtin "getset_descriptor.__get__") [.builtin "object.__class__", .ref x, .ref D]) >>= ret) _ _ _
  refine wpAny_bind (wpAny_holding (wpAny_call (class_get (s := ⟨hp, g, d, t + 1, os⟩) (ox := ox) (od := some od) X I hm ?_)))
  refine wpAny_pure ?_
  show wpAny _ _ (handedOut (.ref D)) _ _ _
  rw [handedOut_of (v := .ref D) rfl]
  first
    | exact wpAny_pure (wpAny_pure h)
    | exact wpAny_pure h
    | exact wpAny_pure (wpAny_bind (wpAny_pure (wpAny_pure h)))
/-- what isinstance asks of it -/
theorem kitx_caught (C : ExcC K D) {od : Obj} : KitX K (.ref x) (.ref D) (fun h => InstAt h x ox D (some od)) where
  ty := fun _ _ _ I => I.type
  it := fun M h X _ => by
    obtain ⟨cd, hc, _⟩ := any_some C.hd
    unfold clsIn at hc
    split at hc
    · rename_i _ _ _ _ ho
      exact fun A Q E s k q => by
        unfold isType loadHead
        exact wpAny_bind (wpAny_loadPart (k _ _ (X _ _ ho)) (wpAny_pure q))
    · cases hc
  ne := fun h tp dd its n sl X htp => (handS_kitx_exc (x := x) (ox := ox) C.hg C.hk C.hs C.hd C.ha C.hn C.ht C.hm).ne h tp dd its n sl X htp
  ca := fun X I k => classOf_caught C.hg C.hk C.hs C.hd C.ha C.hn C.ht C.hm X I k
end
/-- isinstance(e, c), e the caught error with the fields at dd -/
def rIsD (K : PySem.W.Frag) (D a dd : Addr) : List V → Hp → VK → Prop := fun xs H Q => ∃ (c : V) (cv : Value) (b : Bool) (fs : List (Str × V)), xs = [.ref a, c] ∧ (∀ u, RelV c u → u = cv) ∧ H dd = some (.xd fs) ∧ PySem.W.kitOne K (.ref D) cv = some b ∧ Q (.bl b) H
theorem call_isD {X : Cx} {a D dd : Addr} {oe : Obj} {pn : List (Addr × Obj)} (C : ExcC X.K D) (hz : Zc (.ref D) (some dd) oe) (hf : ∃ vs, oe.data = .fields vs) : CallR (X.suite a ((a, oe) :: pn)) (.builtin "isinstance") (rIsD X.K D a dd) := by
  intro pins s σ H xs us Q I r h
  obtain ⟨c, cv, b, fs, rfl, hcv, hdd, e, q⟩ := h
  cases r with
  | cons rx rr =>
    cases rr with
    | cons rt rr =>
      cases rr
      cases rx
      have ec := hcv _ rt
      subst ec
      have hget := (I.pin (a, oe) (List.mem_append_left _ List.mem_cons_self)).1
      obtain ⟨vs, hv⟩ := hf
      have hx : ObjOk X.prog X.w H s.heap dd (.xd fs) := I.hok dd _ hdd
      obtain ⟨mA, hns, _⟩ := hx
      obtain ⟨od, ho, _⟩ := lookIn_ns hns
      have J : PySem.W.InstAt s.heap a oe D (some od) := ⟨hget, hz.1, by unfold PySem.W.notCls; rw [hv] <;> rfl, by rw [hz.2]; exact ho⟩
      exact PySem.W.kia_one (kitx_caught C) I.kIn J e (fun z => nomatch z) fun tk => ⟨.bl b, H, I.kept (t' := tk) fun _ _ z => z, rfl, q⟩
/-- isinstance(caught, c): the name of the except clause, a class of the module -/
theorem pe_isD {X : Cx} {a D C dd : Addr} {oe : Obj} {pn : List (Addr × Obj)} {i : Nat} {n c : Str} {p1 p2 p3 p4 : Pos} (hC : ExcC X.K D) (hz : Zc (.ref D) (some dd) oe) (hf : ∃ vs, oe.data = .fields vs) (hgi : Gl X "isinstance") (hmi : X.mg "isinstance" = none)
    (hN : X.N[i]? = some n) (hv : Vis X.env.scope n) (hgc : Gl X c) (hmc : X.mg c = some (.ref C)) (hd : (n == ("__debug__" : Str)) = false := by decide) (hcd : (n == ("__classdict__" : Str)) = false := by decide) (hdc : (c == ("__debug__" : Str)) = false := by decide) :
    PE (X.suite a ((a, oe) :: pn)) (.Call (.Name "isinstance" p1) [.Name n p2, .Name c p3] [] p4) (fun σ H Q => σ[i]? = some (some (.ref a)) ∧ (∃ fs, H dd = some (.xd fs)) ∧ ∃ b, PySem.W.kitOne X.K (.ref D) (.ref C) = some b ∧ Q (.bl b) H) := by
  have h := pe_callB (X := X.suite a ((a, oe) :: pn)) (p := p1) (pos := p4) (call_isD (pn := pn) hC hz hf) hgi hmi (by rfl) (pa_cons (pe_var (X := X.suite a ((a, oe) :: pn)) (pos := p2) (i := i) hN hv hd hcd) (pa_cons (pe_glob (X := X.suite a ((a, oe) :: pn)) (pos := p3) (v := .ref C) hgc hmc rfl hdc) pa_nil))
  refine ⟨fun pins s σ H Q I hh => h.run pins s σ H Q I ?_⟩
  obtain ⟨h1, ⟨fs, h2⟩, b, h3, h4⟩ := hh
  exact ⟨.ref a, h1, .ref C, .ref C, b, fs, rfl, fun u r => r, h2, h3, h4⟩
end Hw

set_option Elab.async false
set_option linter.all false
set_option maxRecDepth 100000
set_option maxHeartbeats 4000000
namespace Hw
open PySem PySem.Spec L2 PyProof PyProof.Rows
def isYes : V → Bool
  | .bl b => b
  | _ => false
/-- the keys with True -/
def yesOf (kvs : List (Key × V)) : List V := (kvs.filter fun kv => isYes kv.2).map fun kv => kV kv.1
theorem valV_at' : ∀ {kvs : List (Key × V)} {k : Key} {v : V}, (kvs.map (·.1)).Nodup → (k, v) ∈ kvs → valV kvs k = some v
  | [], _, _, _, h => by cases h
  | (k0, v0) :: r, k, v, nd, h => by
    have nd' := List.nodup_cons.mp (show (k0 :: r.map (·.1)).Nodup from nd)
    unfold valV
    rw [List.find?_cons]
    by_cases e : k0 = k
    · subst e
      rcases List.mem_cons.mp h with z | z
      · cases z; simp
      · exact absurd (List.mem_map.mpr ⟨_, z, rfl⟩) nd'.1
    · rw [show decide ((k0, v0).1 = k) = false from decide_eq_false e]
      rcases List.mem_cons.mp h with z | z
      · cases z; exact absurd rfl e
      · exact valV_at' nd'.2 z
theorem upd_back {H : Hp} {d D : Addr} {a l u : HO} (hd : H d = some u) (hD : H D = none) : upd (upd (upd H d a) D l) d u = upd H D l := by
  have ne : D ≠ d := fun z => by rw [z, hd] at hD; cases hD
  funext b
  by_cases h1 : b = d
  · subst h1; rw [upd_same, upd_ne (Ne.symm ne)]; exact hd.symm
  · rw [upd_ne h1]
    by_cases h2 : b = D
    · subst h2; rw [upd_same, upd_same]
    · rw [upd_ne h2, upd_ne h1, upd_ne h2]
/-- the words of the dict whose value is True, also within an except suite -/
theorem pe_yesWords {X : Cx} {i j : Nat} {w ws : Str} {scope : Scope} {p1 p2 p3 p4 p5 p6 pos : Pos} (hc : L2H.HotC X) (hN : X.N.Nodup) (hu : X.A.units + 1 < cLine) (hws : X.N[i]? = some ws) (hw : X.N[j]? = some w) (hij : i ≠ j)
    (ok : BlkOk X.N X.env.scope scope [(w, j)]) (hvX : Vis X.env.scope ws) (hv : ∀ (C : Addr) (cl : List (Str × Addr)), Vis (compEnvC scope cl C X.env).scope ws) (hl : ∀ (C : Addr) (cl : List (Str × Addr)), (compEnvC scope cl C X.env).scope.names.lookup w = some .local)
    (hd : (ws == ("__debug__" : Str)) = false := by decide) (hcd : (ws == ("__classdict__" : Str)) = false := by decide) (hd' : (w == ("__debug__" : Str)) = false := by decide) (hcd' : (w == ("__classdict__" : Str)) = false := by decide) :
    PE X (.ListComp (.Name w p1) [⟨.Name w p2, .Name ws p3, [.Subscript (.Name ws p4) (.Name w p5) p6], 0⟩] scope pos) (fun σ H Q => ∃ d kvs, σ[i]? = some (some (.ref d)) ∧ H d = some (.dK kvs) ∧ (∀ kv ∈ kvs, ∃ b, kv.2 = V.bl b) ∧ (kvs.map (·.1)).Nodup ∧ kvs.length ≤ 100 ∧
      ∀ D, H D = none → Q (.ref D) (upd H D (.lst (yesOf kvs)))) := by
  refine ⟨fun pins s σ H Q I h => ?_⟩
  obtain ⟨d, kvs, hs, hH, hb, nd, few, q⟩ := h
  have hj : j < σ.length := by
    rw [I.len]
    obtain ⟨z, _⟩ := List.getElem?_eq_some_iff.mp hw
    exact z
  refine (pe_lock (pe_lcW (own := [(w, j)]) (g := gName j) (tt := tB (tDGet (tVar i) (tVar j))) (te := tVar j) hc hN (pi_keysW (pe_var hws hvX hd hcd)) ok
    (fun _ _ C cl _ => pg_name hN hw (.inl (hl C cl)) (.inr (hl C cl)))
    (fun _ _ C cl _ => pts_one (pt_val (pe_dget hu (pe_var hws (hv C cl) hd hcd) (pe_var hw (.inl (hl C cl)) hd' hcd') (fun _ _ => rfl))))
    (fun _ _ C cl _ => pe_var hw (.inl (hl C cl)) hd' hcd'))).run pins s σ H Q I ?_
  refine ⟨d, .dK kvs, hH, trivial, fun od => ?_⟩
  refine ⟨.ref d, hs, d, od, kvs, rfl, upd_same, fun D nD => ?_⟩
  have neD : D ≠ d := fun z => by rw [z, upd_same] at nD; cases nD
  have nD1 : H D = none := by rw [upd_ne neD] at nD; exact nD
  refine lc_it (n := kvs.length) walk_keys (fun n H' => H' = upd (upd H d (.frz od (.dK kvs))) D (.lst (yesOf (kvs.take n)))) rfl (fun n H' _ e => ?_) (fun n x H3 H2 hn e y => ?_) (fun H' e => ?_)
  · rw [e, upd_ne (Ne.symm neD)]; exact upd_same
  · obtain ⟨rfl, k, v, hk, rfl⟩ := y
    obtain ⟨b, hbv⟩ := hb _ (List.mem_of_getElem? hk)
    have hbv : v = V.bl b := hbv
    subst hbv
    have e1 : wipe σ (List.map (fun x => x.2) [(w, j)]) = σ.set j none := rfl
    rw [e1]
    show (wipe ((σ.set j none).set j (some (kV k))) [j] = _) ∧ _
    rw [List.set_set]
    have s1 : (σ.set j (some (kV k)))[i]? = some (some (V.ref d)) := by rw [List.getElem?_set_ne (Ne.symm hij)]; exact hs
    have s2 : (σ.set j (some (kV k)))[j]? = some (some (kV k)) := List.getElem?_set_self hj
    refine ⟨by show (σ.set j (some (kV k))).set j none = _; rw [List.set_set], ?_⟩
    have hdd : H2 d = some (.frz od (.dK kvs)) := by rw [e, upd_ne (Ne.symm neD)]; exact upd_same
    have hvl := valV_at' nd (List.mem_of_getElem? hk)
    have tk : kvs.take (n + 1) = kvs.take n ++ [(k, V.bl b)] := by rw [List.take_add_one, hk]; rfl
    refine ⟨.ref d, s1, kV k, s2, d, V.bl b, rfl, .inl ⟨kvs, k, .inr ⟨od, hdd⟩, rfl, hvl.symm⟩, b, rfl, ?_⟩
    cases b with
    | false =>
      rw [if_neg Bool.false_ne_true]
      show H2 = _
      rw [e, tk]
      unfold yesOf
      rw [List.filter_append]
      simp [isYes]
    | true =>
      rw [if_pos rfl]
      refine ⟨kV k, s2, yesOf (kvs.take n), by rw [e]; exact upd_same, ?_, ?_⟩
      · have h1 : (yesOf (kvs.take n)).length ≤ kvs.length := by
          unfold yesOf
          rw [List.length_map]
          exact Nat.le_trans (List.length_filter_le _ _) (by rw [List.length_take]; exact Nat.min_le_right _ _)
        have h2 : (100 : Nat) < sizeLine := by decide
        omega
      · rw [e, upd_upd, tk]
        unfold yesOf
        rw [List.filter_append, List.map_append]
        rfl
  · rw [e, List.take_length]
    refine ⟨by rw [upd_ne (Ne.symm neD)]; exact upd_same, ?_⟩
    rw [upd_back hH nD1]
    exact q D nD1
end Hw

set_option Elab.async false
set_option linter.all false
set_option maxRecDepth 100000
set_option maxHeartbeats 4000000
namespace Hw
open PySem PySem.Spec L2 PyProof PyProof.Rows
/-- the first word whose mark is True -/
def pick3 (w1 w2 w3 other : Str) (b1 b2 b3 : Bool) : Str := if b1 then w1 else if b2 then w2 else if b3 then w3 else other
/-- words = {w1: isinstance(caught, c1), w2: isinstance(caught, c2)}; words[w3] = ..; return (([word for word in words if words[word]] + [other])[0], caught.value) -/
theorem pss_words3 {X : Cx} {a Dc dd C1 C2 C3 : Addr} {oe : Obj} {pn : List (Addr × Obj)} {w1 w2 w3 other c1 c2 c3 : Str} {scope : Scope} {j1 j2 j3 j4 j5 kk : Nat} {q1 q2 q3 q4 q5 q6 q7 q8 q9 q10 r1 r2 r3 r4 r5 r6 r7 r8 r9 r10 r11 r12 s1 s2 s3 s4 s5 s6 s7 s8 s9 s10 s11 s12 s13 s14 s15 : Pos}
    (hC : ExcC X.K Dc) (hz : L2N.Zn (.ref Dc) (some dd) oe) (hf : ∃ vs, oe.data = .fields vs) (T : XfC X.K Dc) (hno : PySem.W.findIn X.K (.ref Dc) "value" = some none) (hu : X.A.units + 1 < cLine) (hNN : X.N = [("call" : Str), ("caught" : Str), ("words" : Str), ("word" : Str)])
    (hgi : Gl X "isinstance") (hmi : X.mg "isinstance" = none) (g1 : Gl X c1) (m1 : X.mg c1 = some (.ref C1)) (g2 : Gl X c2) (m2 : X.mg c2 = some (.ref C2)) (g3 : Gl X c3) (m3 : X.mg c3 = some (.ref C3)) (d1 : (c1 == ("__debug__" : Str)) = false) (d2 : (c2 == ("__debug__" : Str)) = false) (d3 : (c3 == ("__debug__" : Str)) = false)
    (vc : Vis X.env.scope "caught") (vw : X.env.scope.names.lookup ("words" : Str) = some .cell) (fw : X.fn "words" = true) (n12 : w1 ≠ w2) (n13 : w1 ≠ w3) (n23 : w2 ≠ w3)
    (ok : BlkOk ["call", "caught", "words", "word"] X.env.scope scope [("word", 3)]) (hv : ∀ (C : Addr) (cl : List (Str × Addr)), Vis (compEnvC scope cl C X.env).scope "words") (hl : ∀ (C : Addr) (cl : List (Str × Addr)), (compEnvC scope cl C X.env).scope.names.lookup ("word" : Str) = some .local) :
    PSs (X.suite a ((a, oe) :: pn))
      [.Assign [.Name "words" q1] (.Dict [some (.Constant (.str w1) j1 q2), some (.Constant (.str w2) j2 q3)] [.Call (.Name "isinstance" r1) [.Name "caught" r2, .Name c1 r3] [] r4, .Call (.Name "isinstance" r5) [.Name "caught" r6, .Name c2 r7] [] r8] q4) q5,
       .Assign [.Subscript (.Name "words" q6) (.Constant (.str w3) j3 q7) q8] (.Call (.Name "isinstance" r9) [.Name "caught" r10, .Name c3 r11] [] r12) q9,
       .Return (some (.Tuple [.Subscript (.BinOp (.ListComp (.Name "word" s1) [⟨.Name "word" s2, .Name "words" s3, [.Subscript (.Name "words" s4) (.Name "word" s5) s6], 0⟩] scope s7) .Add (.List [.Constant (.str other) j4 s8] s9) s10) (.Constant (.int 0) j5 s11) s12, .Attribute (.Name "caught" s13) "value" s14] kk s15)) q10]
      (fun D σ H => σ.length = 4 ∧ σ[1]? = some (some (.ref a)) ∧ ∃ (fs : List (Str × V)) (v : V) (b1 b2 b3 : Bool), H dd = some (.xd fs) ∧ fs.lookup ("value" : Str) = some v ∧ PySem.W.kitOne X.K (.ref Dc) (.ref C1) = some b1 ∧ PySem.W.kitOne X.K (.ref Dc) (.ref C2) = some b2 ∧ PySem.W.kitOne X.K (.ref Dc) (.ref C3) = some b3 ∧
        ∀ H' tp, (∀ b o, H b = some o → H' b = some o) → H' tp = some (.tup [.str (pick3 w1 w2 w3 other b1 b2 b3), v]) → D.rt (.ref tp) H') := by
  have hN : (X.suite a ((a, oe) :: pn)).N.Nodup := by show X.N.Nodup; rw [hNN]; decide
  have i1 : (X.suite a ((a, oe) :: pn)).N[1]? = some ("caught" : Str) := by show X.N[1]? = _; rw [hNN]; rfl
  have i2 : (X.suite a ((a, oe) :: pn)).N[2]? = some ("words" : Str) := by show X.N[2]? = _; rw [hNN]; rfl
  have i3 : (X.suite a ((a, oe) :: pn)).N[3]? = some ("word" : Str) := by show X.N[3]? = _; rw [hNN]; rfl
  have okX : BlkOk (X.suite a ((a, oe) :: pn)).N X.env.scope scope [("word", 3)] := by show BlkOk X.N _ _ _; rw [hNN]; exact ok
  have pw : PE (X.suite a ((a, oe) :: pn)) (.Name "words" q6) (tVar 2) := pe_var i2 (.inr (.inl vw)) (by decide) (by decide)
  have is1 := pe_isD (X := X) (a := a) (pn := pn) (i := 1) (p1 := r1) (p2 := r2) (p3 := r3) (p4 := r4) hC hz.zc hf hgi hmi i1 vc g1 m1 (by decide) (by decide) d1
  have is2 := pe_isD (X := X) (a := a) (pn := pn) (i := 1) (p1 := r5) (p2 := r6) (p3 := r7) (p4 := r8) hC hz.zc hf hgi hmi i1 vc g2 m2 (by decide) (by decide) d2
  have is3 := pe_isD (X := X) (a := a) (pn := pn) (i := 1) (p1 := r9) (p2 := r10) (p3 := r11) (p4 := r12) hC hz.zc hf hgi hmi i1 vc g3 m3 (by decide) (by decide) d3
  have pd := pe_disp (X := X.suite a ((a, oe) :: pn)) (pos := q4) (pps_cons (pe_str (j := j1) (pos := q2) (x := w1)) is1 (pps_cons (pe_str (j := j2) (pos := q3) (x := w2)) is2 pps_nil)) rfl rfl (by simp) (by show 2 ≤ 15; omega)
  have ps2 := ps_dput (X := X.suite a ((a, oe) :: pn)) (pos' := q8) (pos := q9) hu pw (pe_str (j := j3) (pos := q7) (x := w3)) is3 rfl
  have ps1 := ps_set (X := X.suite a ((a, oe) :: pn)) (i := 2) (pos' := q1) (pos := q5) hN i2 (.inr vw) pd rfl (.inl fw)
  have ylc := pe_yesWords (X := X.suite a ((a, oe) :: pn)) (i := 2) (j := 3) (p1 := s1) (p2 := s2) (p3 := s3) (p4 := s4) (p5 := s5) (p6 := s6) (pos := s7) (hot_suite hz hf) hN hu i2 i3 (by decide) okX (.inr (.inl vw)) hv hl (by decide) (by decide) (by decide) (by decide)
  have pl := pe_ix (X := X.suite a ((a, oe) :: pn)) (pos := s12) ix_list (pe_op (pos := s10) op_cat ylc (pe_lst (pos := s9) (pa_cons (pe_str (j := j4) (pos := s8) (x := other)) pa_nil))) (pe_int (j := j5) (pos := s11) (i := 0)) (fun _ _ => rfl)
  have pf := pe_xf (X := X) (a := a) (pn := pn) (pos := s14) T hno hz.zc hf (pe_var (pos := s13) i1 vc (by decide) (by decide)) rfl
  have ps3 := ps_ret (pos := q10) (pe_tup (x1 := kk) (pos := s15) (pa_cons pl (pa_cons pf pa_nil)))
  refine ⟨fun pins s σ H D I h => (pss_cons ps1 (pss_cons ps2 (pss_one ps3))).run pins s σ H D I ?_⟩
  obtain ⟨hlen, hs, fs, v, b1, b2, b3, hdd, hval, k1, k2, k3, q⟩ := h
  intro p np
  have ndd : dd ≠ p := fun z => by rw [z, np] at hdd; cases hdd
  have hdd1 : upd H p (.dK []) dd = some (.xd fs) := by rw [upd_ne ndd]; exact hdd
  refine ⟨hs, ⟨fs, hdd1⟩, b1, k1, hs, ⟨fs, hdd1⟩, b2, k2, ?_⟩
  refine ⟨upd_same, [(.inr w1, .bl b1), (.inr w2, .bl b2)], rfl, by show 2 ≤ 15; omega, ?_⟩
  have n21 : w2 ≠ w1 := Ne.symm n12
  have em : mergeK [] [((.inr w1 : Key), V.bl b1), (.inr w2, .bl b2)] = [(.inr w1, .bl b1), (.inr w2, .bl b2)] := by
    unfold mergeK
    simp [putK, n12]
  have ep : putK [((.inr w1 : Key), V.bl b1), (.inr w2, .bl b2)] (.inr w3) (.bl b3) = [(.inr w1, .bl b1), (.inr w2, .bl b2), (.inr w3, .bl b3)] := by
    simp [putK, n13, n23]
  rw [em, upd_upd]
  have z1 : (σ.set 2 (some (V.ref p)))[1]? = some (some (V.ref a)) := by rw [List.getElem?_set_ne (by decide)]; exact hs
  have z2 : (σ.set 2 (some (V.ref p)))[2]? = some (some (V.ref p)) := List.getElem?_set_self (by omega)
  have hdd2 : upd H p (.dK [(.inr w1, .bl b1), (.inr w2, .bl b2)]) dd = some (.xd fs) := by rw [upd_ne ndd]; exact hdd
  refine ⟨z1, ⟨fs, hdd2⟩, b3, k3, .ref p, z2, p, _, rfl, .inl ⟨_, .inr w3, upd_same, rfl, by show 2 < sizeLine; decide, rfl⟩, ?_⟩
  rw [ep, upd_upd]
  generalize hH1 : upd H p (.dK [(.inr w1, .bl b1), (.inr w2, .bl b2), (.inr w3, .bl b3)]) = H1
  have hp : H1 p = some (.dK [(.inr w1, .bl b1), (.inr w2, .bl b2), (.inr w3, .bl b3)]) := by rw [← hH1]; exact upd_same
  have same1 : ∀ b o, H b = some o → H1 b = some o := fun b o e => by rw [← hH1, upd_ne (ne_of_none e np)]; exact e
  refine ⟨p, _, z2, hp, fun kv hkv => ?_, by simp [n12, n13, n23], by show 3 ≤ 100; omega, fun L nL => ?_⟩
  · rcases List.mem_cons.mp hkv with z | hkv
    · exact ⟨b1, by rw [z]⟩
    · rcases List.mem_cons.mp hkv with z | hkv
      · exact ⟨b2, by rw [z]⟩
      · exact ⟨b3, by rw [List.mem_singleton.mp hkv]⟩
  generalize hys : yesOf [((.inr w1 : Key), V.bl b1), (.inr w2, .bl b2), (.inr w3, .bl b3)] = ys
  have few : ys.length ≤ 3 := by
    rw [← hys]; unfold yesOf; rw [List.length_map]; exact List.length_filter_le _ _
  have same2 : ∀ b o, H1 b = some o → upd H1 L (.lst ys) b = some o := fun b o e => by rw [upd_ne (ne_of_none e nL)]; exact e
  refine ⟨by show 1 ≤ sizeLine; decide, fun M nM => ?_⟩
  have same3 : ∀ b o, upd H1 L (.lst ys) b = some o → upd (upd H1 L (.lst ys)) M (.lst [.str other]) b = some o := fun b o e => by rw [upd_ne (ne_of_none e nM)]; exact e
  refine ⟨L, M, ys, [.str other], rfl, rfl, same3 _ _ upd_same, upd_same, by have : (100 : Nat) < sizeLine := by decide
                                                                             show ys.length + 1 ≤ _; omega, fun C nC => ?_⟩
  have same4 : ∀ b o, upd (upd H1 L (.lst ys)) M (.lst [.str other]) b = some o → upd (upd (upd H1 L (.lst ys)) M (.lst [.str other])) C (.lst (ys ++ [.str other])) b = some o := fun b o e => by rw [upd_ne (ne_of_none e nC)]; exact e
  have head : atI (ys ++ [V.str other]) 0 = some (V.str (pick3 w1 w2 w3 other b1 b2 b3)) := by
    rw [← hys]
    cases b1 <;> cases b2 <;> cases b3 <;> rfl
  refine ⟨C, _, 0, _, rfl, rfl, .inl (.inl upd_same), head, ?_⟩
  refine ⟨.ref a, z1, rfl, rfl, dd, fs, v, rfl, same4 _ _ (same3 _ _ (same2 _ _ (same1 _ _ hdd))), hval, ?_⟩
  refine ⟨by show 2 ≤ sizeLine; decide, fun tp ntp => ?_⟩
  exact q _ tp (fun b o e => by
    have e4 := same4 _ _ (same3 _ _ (same2 _ _ (same1 _ _ e)))
    rw [upd_ne (ne_of_none e4 ntp)]; exact e4) upd_same
end Hw

set_option Elab.async false
set_option linter.all false
set_option maxRecDepth 100000
set_option maxHeartbeats 4000000
namespace Hw
open PySem PySem.Spec L2 PyProof PyProof.Rows
theorem takes0N {X : Cx} : L2N.Takes X (fun _ _ _ _ => False) := fun _ _ x => by
  obtain ⟨_, _, _, _, _, _, _, _, _, _, _, _, _, _, _, _, z⟩ := x
  exact z.elim
/-- what is known of the error of the package that is caught: its class, its fields -/
structure Caught (K : PySem.W.Frag) (CS : Addr) (cls : Value) (d : Option Addr) (Dc dd : Addr) : Prop where
  cls : cls = .ref Dc
  dict : d = some dd
  heal : PySem.W.exmOne K (.ref Dc) (.ref CS) = some true
  isC : ExcC K Dc
  fld : XfC K Dc
  val : PySem.W.findIn K (.ref Dc) "value" = some none
/-- _law_heard(call): (word, value) of the error of the package, ("", None) without one -/
def spHeard3 (P : Program) (w : World) (K : PySem.W.Frag) (mg : Str → Option Value) (base : Heap) (k : Nat) (CS C1 C2 C3 : Addr) (w1 w2 w3 other : Str) : SpL := fun fs h vs H Q _ =>
  ∃ (a : Addr) (G : Hp → Prop) (tl : XK → Hp → VK → Prop), vs = [.ref a] ∧ Act (L2N.CX P w) P w K mg base k a fs H h G tl ∧ G H ∧
    tl (fun cls d H1 => ∃ (Dc dd : Addr) (fds : List (Str × V)) (v : V) (b1 b2 b3 : Bool), Caught K CS cls d Dc dd ∧ H1 dd = some (.xd fds) ∧ fds.lookup ("value" : Str) = some v ∧ PySem.W.kitOne K (.ref Dc) (.ref C1) = some b1 ∧ PySem.W.kitOne K (.ref Dc) (.ref C2) = some b2 ∧ PySem.W.kitOne K (.ref Dc) (.ref C3) = some b3 ∧
        ∀ H' tp, (∀ b o, H1 b = some o → H' b = some o) → H' tp = some (.tup [.str (pick3 w1 w2 w3 other b1 b2 b3), v]) → Q (.ref tp) H') H
      (fun _ H1 => ∀ H' tp, (∀ b o, H1 b = some o → H' b = some o) → H' tp = some (.tup [.str "", .non]) → Q (.ref tp) H')
theorem heard3_ok {P : Program} {w : World} {K : PySem.W.Frag} {mg : Str → Option Value} {base : Heap} {st : Stmt} {f : Addr} {fd : FuncData} {k : Nat} {qual er : Str} {CS C1 C2 C3 : Addr} {w1 w2 w3 other c1 c2 c3 : Str} {scope : Scope} {j1 j2 j3 j4 j5 j6 j7 kk kk2 : Nat}
    {q1 q2 q3 q4 q5 q6 q7 q8 q9 q10 r1 r2 r3 r4 r5 r6 r7 r8 r9 r10 r11 r12 s1 s2 s3 s4 s5 s6 s7 s8 s9 s10 s11 s12 s13 s14 s15 u1 u2 u3 u4 u5 u6 u7 u8 u9 u10 : Pos}
    (F : L2.Fun K "_law_heard" qual st f fd) (S : FnScope ["call", "caught", "words", "word"] ["call"] (defScope st))
    (hb : defBody st = [.Try [.Expr (.Call (.Name "call" u1) [] [] u2) u3] [.ExceptHandler (some (.Name er u4)) (some "caught")
      [.Assign [.Name "words" q1] (.Dict [some (.Constant (.str w1) j1 q2), some (.Constant (.str w2) j2 q3)] [.Call (.Name "isinstance" r1) [.Name "caught" r2, .Name c1 r3] [] r4, .Call (.Name "isinstance" r5) [.Name "caught" r6, .Name c2 r7] [] r8] q4) q5,
       .Assign [.Subscript (.Name "words" q6) (.Constant (.str w3) j3 q7) q8] (.Call (.Name "isinstance" r9) [.Name "caught" r10, .Name c3 r11] [] r12) q9,
       .Return (some (.Tuple [.Subscript (.BinOp (.ListComp (.Name "word" s1) [⟨.Name "word" s2, .Name "words" s3, [.Subscript (.Name "words" s4) (.Name "word" s5) s6], 0⟩] scope s7) .Add (.List [.Constant (.str other) j4 s8] s9) s10) (.Constant (.int 0) j5 s11) s12, .Attribute (.Name "caught" s13) "value" s14] kk s15)) q10] u5] [] [] u6,
      .Return (some (.Tuple [.Constant (.str "") j6 u7, .Constant .none j7 u8] kk2 u9)) u10])
    (va : (defScope st).names.lookup ("call" : Str) = some .local) (vc : (defScope st).names.lookup ("caught" : Str) = some .local) (vw : (defScope st).names.lookup ("words" : Str) = some .cell)
    (ge : (defScope st).names.lookup er = some .globalImplicit) (gi : (defScope st).names.lookup ("isinstance" : Str) = some .globalImplicit) (g1 : (defScope st).names.lookup c1 = some .globalImplicit) (g2 : (defScope st).names.lookup c2 = some .globalImplicit) (g3 : (defScope st).names.lookup c3 = some .globalImplicit)
    (me : mg er = some (.ref CS)) (mi : mg "isinstance" = none) (m1 : mg c1 = some (.ref C1)) (m2 : mg c2 = some (.ref C2)) (m3 : mg c3 = some (.ref C3))
    (de : (er == ("__debug__" : Str)) = false) (d1 : (c1 == ("__debug__" : Str)) = false) (d2 : (c2 == ("__debug__" : Str)) = false) (d3 : (c3 == ("__debug__" : Str)) = false) (n12 : w1 ≠ w2) (n13 : w1 ≠ w3) (n23 : w2 ≠ w3)
    (ok : BlkOk ["call", "caught", "words", "word"] (defScope st) scope [("word", 3)])
    (hv : ∀ (C : Addr) (cl : List (Str × Addr)) (L : Nat) (cd : Value), Vis (compEnvC scope cl C (envOfC qual (defScope st) L f cd)).scope "words")
    (hl : ∀ (C : Addr) (cl : List (Str × Addr)) (L : Nat) (cd : Value), (compEnvC scope cl C (envOfC qual (defScope st) L f cd)).scope.names.lookup ("word" : Str) = some .local) :
    FnGL P w K mg base CX0 (k + 2) f fd ["call"] (spHeard3 P w K mg base k CS C1 C2 C3 w1 w2 w3 other) := by
  refine funGL F S (fun fs h vs H Q E hh => ?_) (fun cdv A outer s H vs Q E hr hh => ?_)
  · obtain ⟨_, _, _, rfl, _⟩ := hh
    rfl
  · obtain ⟨a, G, tl, rfl, ac, hg, ht⟩ := hh
    rw [hb]
    refine ⟨_, pss_cons (ps_heardN (X := (cxOf CX0 P w K mg base ["call", "caught", "words", "word"] qual (defScope st) f cdv A outer s H E).nox) (i := 1) (j := 0) (c := .ref CS) (Wout := fun _ _ _ _ => False)
        (ts := fun x cls d D σ H1 => ∃ (Dc dd : Addr), Caught K CS cls d Dc dd ∧ (σ.length = 4 ∧ σ[1]? = some (some (.ref x)) ∧ ∃ (fs : List (Str × V)) (v : V) (b1 b2 b3 : Bool), H1 dd = some (.xd fs) ∧ fs.lookup ("value" : Str) = some v ∧ PySem.W.kitOne K (.ref Dc) (.ref C1) = some b1 ∧ PySem.W.kitOne K (.ref Dc) (.ref C2) = some b2 ∧ PySem.W.kitOne K (.ref Dc) (.ref C3) = some b3 ∧
          ∀ H' tp, (∀ b o, H1 b = some o → H' b = some o) → H' tp = some (.tup [.str (pick3 w1 w2 w3 other b1 b2 b3), v]) → D.rt (.ref tp) H'))
        rfl rfl rfl S.nd rfl vc ⟨ge, de, .inl me⟩ takes0N ac hr.r rfl (.inl va) (fun x oe cls d pn hz hf => ?_) (by decide) (by decide))
      (pss_one (ps_ret (pe_tup (pa_cons pe_str (pa_cons pe_non pa_nil))))), ?_⟩
    · refine ⟨fun pins s' σ H1 D I h => ?_⟩
      obtain ⟨Dc, dd, ct, h⟩ := h
      have e1 := ct.cls
      have e2 := ct.dict
      subst e1 e2
      exact (pss_words3 (X := (cxOf CX0 P w K mg base ["call", "caught", "words", "word"] qual (defScope st) f cdv A outer s H E).nox) (pn := pn) ct.isC hz hf ct.fld ct.val (hu_of hr.r) rfl gi mi g1 m1 g2 m2 g3 m3 d1 d2 d3 (.inl vc) vw rfl n12 n13 n23 ok
        (fun C cl => hv C cl _ _) (fun C cl => hl C cl _ _)).run pins s' σ H1 D I h
    · refine ⟨_, _, fun cls d H1 h => ?_, fun v H1 h => ?_, rfl, hg, ht⟩
      · obtain ⟨Dc, dd, fds, v, b1, b2, b3, ct, e1, e2, k1, k2, k3, q⟩ := h
        have ec := ct.cls
        refine ⟨true, by rw [ec]; exact ct.heal, fun _ x _ => ⟨Dc, dd, ct, rfl, rfl, fds, v, b1, b2, b3, e1, e2, k1, k2, k3, q⟩, fun z => Bool.noConfusion z⟩
      · refine ⟨by show 2 ≤ sizeLine; decide, fun tp np => ?_⟩
        exact h _ tp (fun b o e => by rw [upd_ne (ne_of_none e np)]; exact e) upd_same
end Hw

set_option Elab.async false
set_option linter.all false
set_option maxRecDepth 100000
set_option maxHeartbeats 4000000
namespace Hw
open PySem PySem.Spec L2 PyProof PyProof.Rows
section
variable {X : Cx} {o e : Expr} {es : List Expr} {to te : TE} {ta : TA} {f : Str} {p p' p1 p2 pos : Pos}
/-- an error with its own __init__ is made; its context is None -/
theorem mk_endN {pins : List (Addr × Obj)} {σ : L2.St} {H1 H2 : Hp} {Q : XK} {hp hp2 h2 : Heap} {g1 g2 : Array GenState} {d1 d2 : Drawn} {t1 t2 : Nat} {os1 os2 : OsState} {a C d : Addr} {fs : List (Str × V)} (T : Raises X (.ref C)) (I1 : Inv X pins σ H1 ⟨hp, g1, d1, t1, os1⟩)
    (ha : hp.objs.size ≤ a) (k : ∀ b o, hp.get? b = some o → hp2.get? b = some o) (un : Un (frs X.stack) [] (upd H1 a (exo a C none)) H2 hp2 h2) (hok : HOk X.prog X.w H2 h2) (ho : os2 = os1) (hb : AllBare g2)
    (ea : H2 a = some (exo a C (some d))) (ed : H2 d = some (exd d fs)) (hd1 : H1 d = none) (q : Q (.ref C) (some d) (upd (del H2 a) d (.xd fs))) : L2N.MkP X pins σ Q (.ref a) ⟨h2, g2, d2, t2, os2⟩ := by
  obtain ⟨t0, G, J, kG, ge, hoe, na⟩ := mk_end0 (d2 := d2) (t2 := t2) I1 ha k un hok ho hb ea ed hd1
  exact ⟨a, _, _, ⟨G, g2, d2, t2, os2⟩, _, .ref C, some d, rfl, J, kG, ge, hoe, ⟨rfl, rfl, fun vs e => by cases e; rfl⟩, rfl, rfl, na, rfl, hb, T, q⟩
theorem pmk_oexN {CX : CXT} {x : Str} {C fI : Addr} {k : Nat} {fd : FuncData} {ps : List Str} {sp : Sp} {ds : List Value} {dvs : List V} (T : OexC X.K C) (iC : PySem.W.findIn X.K (.ref C) "__init__" = some (some (.ref fI))) (tI : PySem.W.typeIn X.K (.ref fI) = some (.type "function"))
    (F1 : FnOk X.prog X.w X.K X.mg X.base CX k fI fd ps sp) (hr : Room (k + 1) X.A) (hb : Binds X.K fd ps ds) (hd : Vals dvs ds) (hx : Passes CX X (fun _ _ _ => False)) (hg : Gl X x) (hm : X.mg x = some (.ref C)) (ha : PA X (e :: es) ta)
    (hdb : (x == ("__debug__" : Str)) = false := by decide) (he : starEach (e :: es) X.env = (false, eval e X.env) :: starEach es X.env := by rfl) (hpl : (backTo pos (starEach es X.env)).any (·.1) = false := by rfl) :
    L2N.PMk X (.Call (.Name x p) (e :: es) [] pos) (tMkO C sp dvs ta) := by
  intro pins s σ H Q I h
  obtain ⟨nm, q, N, bs, bm, sn, sub, ab, col, dd, k0, k1, k2, k3, k5, hC, hbm⟩ := T.cls
  refine wpAny_Call_Name_kw (ld_glob I hg hm ?_ hdb)
  refine PySem.W.callWith_K (h₀ := X.base) I.ok.mod.kin T.kC (thn (ha.run pos pins s σ H _ I h) fun us s1 ⟨vs, H1, I1, r1, hz, q1⟩ => ⟨I1.kIn, ?_⟩) he hpl
  show wpAny _ _ (call (.ref C) us) _ _ _
  obtain ⟨hp, g, dr, tk, os⟩ := s1
  have hsz : hp.objs.size ≤ hp.objs.size + 1 := Nat.le_succ _
  have hn : H1 (hp.objs.size + 1) = none := I1.hok.fresh hsz
  have hq := q1 (hp.objs.size + 1) hn
  have kk : ∀ b o, hp.get? b = some o → ((hp.push (PySem.W.kdv_tup us)).push (PySem.HandSPX.excO C hp.objs.size)).get? b = some o := fun b o e => Heap.get?_push_of_some _ (Heap.get?_push_of_some _ e)
  have hget : ((hp.push (PySem.W.kdv_tup us)).push (PySem.HandSPX.excO C hp.objs.size)).get? (hp.objs.size + 1) = some (PySem.HandSPX.excO C hp.objs.size) := by heap_get
  have I2 : Inv X pins σ (upd H1 (hp.objs.size + 1) (exo (hp.objs.size + 1) C none)) ⟨(hp.push (PySem.W.kdv_tup us)).push (PySem.HandSPX.excO C hp.objs.size), g, dr, tk, os⟩ :=
    I1.laid (t' := tk) (a := hp.objs.size + 1) (o := exo (hp.objs.size + 1) C none) (h' := (hp.push (PySem.W.kdv_tup us)).push (PySem.HandSPX.excO C hp.objs.size)) kk hsz (exo_ok hget)
  have r2 : Vals (V.ref (hp.objs.size + 1) :: (vs ++ dvs)) (Value.ref (hp.objs.size + 1) :: (us ++ ds)) := .cons rfl (r1.append hd)
  have hl : (Value.ref (hp.objs.size + 1) :: us ++ ds).length = ps.length := by
    have e := r2.length
    rw [F1.len _ _ _ _ hq] at e
    exact e.symm
  have hus : us.length ≤ sizeLine := by
    rw [← Paired.length r1, sizeLine_eq]
    omega
  refine wpAny_call (PySem.HandSPX.call_own F.excBase_ValueError (fun Y => PySem.HandSPX.refsVE_contains Y bm hbm) (I1.kIn _ _ hC) (PySem.W.looks_findIn I1.kIn iC) (fun self => PySem.W.bind_fn I1.kIn self tI) hus
    (codeAny_mono (F1.run _ X.stack _ _ ⟨Value.ref (hp.objs.size + 1) :: us, []⟩ (Value.ref (hp.objs.size + 1) :: (us ++ ds)) _ _ (fun _ _ _ => False) (hr.make C us []) (I2.env0.make C us []) (hb _ (Value.ref (hp.objs.size + 1) :: us) I2.kIn hl) r2 hq) fun r s' hq' => ?_))
  cases r with
  | error er => exact hx pins σ _ _ er s' I2 hq'
  | ok fl =>
    cases fl with
    | ret u =>
      obtain ⟨v, H2, os2, bare2, un2, hok2, rv, ev, d, fs, ea, ed, hd1, q2⟩ := hq'
      subst ev
      obtain ⟨h2, g2, d2, t2, os'⟩ := s'
      exact ⟨rv, mk_endN (raises_own T.exC T.tyC) I1 hsz kk un2 hok2 os2 bare2 ea ed hd1 q2⟩
    | next => exact False.elim hq'
    | brk => exact False.elim hq'
    | cont => exact False.elim hq'
end
end Hw

set_option Elab.async false
set_option linter.all false
set_option maxRecDepth 100000
set_option maxHeartbeats 4000000
namespace Hw
open PySem PySem.Spec L2 PyProof PyProof.Rows
/-- _law_heard(call) of k06: what the error tells, None without one or of another class -/
def spHeard1 (P : Program) (w : World) (K : PySem.W.Frag) (mg : Str → Option Value) (base : Heap) (k : Nat) (CS C1 : Addr) : SpL := fun fs h vs H Q _ =>
  ∃ (a : Addr) (G : Hp → Prop) (tl : XK → Hp → VK → Prop), vs = [.ref a] ∧ Act (L2N.CX P w) P w K mg base k a fs H h G tl ∧ G H ∧
    tl (fun cls d H1 => ∃ (Dc dd : Addr) (fds : List (Str × V)) (v : V) (b : Bool), Caught K CS cls d Dc dd ∧ H1 dd = some (.xd fds) ∧ fds.lookup ("value" : Str) = some v ∧ PySem.W.kitOne K (.ref Dc) (.ref C1) = some b ∧ Q (if b = true then v else .non) H1) H
      (fun _ H1 => Q .non H1)
theorem heard1_ok {P : Program} {w : World} {K : PySem.W.Frag} {mg : Str → Option Value} {base : Heap} {st : Stmt} {f : Addr} {fd : FuncData} {k : Nat} {qual er : Str} {CS C1 : Addr} {c1 : Str} {j1 j2 : Nat} {r1 r2 r3 r4 s1 s2 s3 s4 s5 u1 u2 u3 u4 u5 u6 u7 u8 : Pos}
    (F : L2.Fun K "_law_heard" qual st f fd) (S : FnScope ["call", "caught"] ["call"] (defScope st))
    (hb : defBody st = [.Try [.Expr (.Call (.Name "call" u1) [] [] u2) u3] [.ExceptHandler (some (.Name er u4)) (some "caught")
      [.Return (some (.IfExp (.Call (.Name "isinstance" r1) [.Name "caught" r2, .Name c1 r3] [] r4) (.Attribute (.Name "caught" s1) "value" s2) (.Constant .none j1 s3) s4)) s5] u5] [] [] u6,
      .Return (some (.Constant .none j2 u7)) u8])
    (va : (defScope st).names.lookup ("call" : Str) = some .local) (vc : (defScope st).names.lookup ("caught" : Str) = some .local)
    (ge : (defScope st).names.lookup er = some .globalImplicit) (gi : (defScope st).names.lookup ("isinstance" : Str) = some .globalImplicit) (g1 : (defScope st).names.lookup c1 = some .globalImplicit)
    (me : mg er = some (.ref CS)) (mi : mg "isinstance" = none) (m1 : mg c1 = some (.ref C1)) (de : (er == ("__debug__" : Str)) = false) (d1 : (c1 == ("__debug__" : Str)) = false) :
    FnGL P w K mg base CX0 (k + 2) f fd ["call"] (spHeard1 P w K mg base k CS C1) := by
  refine funGL F S (fun fs h vs H Q E hh => ?_) (fun cdv A outer s H vs Q E hr hh => ?_)
  · obtain ⟨_, _, _, rfl, _⟩ := hh
    rfl
  · obtain ⟨a, G, tl, rfl, ac, hg, ht⟩ := hh
    rw [hb]
    refine ⟨_, pss_cons (ps_heardN (X := (cxOf CX0 P w K mg base ["call", "caught"] qual (defScope st) f cdv A outer s H E).nox) (i := 1) (j := 0) (c := .ref CS) (Wout := fun _ _ _ _ => False)
        (ts := fun x cls d D σ H1 => ∃ (Dc dd : Addr), Caught K CS cls d Dc dd ∧ (σ[1]? = some (some (.ref x)) ∧ ∃ (fs : List (Str × V)) (v : V) (b : Bool), H1 dd = some (.xd fs) ∧ fs.lookup ("value" : Str) = some v ∧ PySem.W.kitOne K (.ref Dc) (.ref C1) = some b ∧ D.rt (if b = true then v else .non) H1))
        rfl rfl rfl S.nd rfl vc ⟨ge, de, .inl me⟩ takes0N ac hr.r rfl (.inl va) (fun x oe cls d pn hz hf => ?_) (by decide) (by decide))
      (pss_one (ps_ret pe_non)), ?_⟩
    · refine ⟨fun pins s' σ H1 D I h => ?_⟩
      obtain ⟨Dc, dd, ct, h⟩ := h
      have e1 := ct.cls
      have e2 := ct.dict
      subst e1 e2
      have is1 := pe_isD (X := (cxOf CX0 P w K mg base ["call", "caught"] qual (defScope st) f cdv A outer s H E).nox) (a := x) (pn := pn) (i := 1) (p1 := r1) (p2 := r2) (p3 := r3) (p4 := r4) ct.isC hz.zc hf gi mi rfl (.inl vc) g1 m1 (by decide) (by decide) d1
      have pf := pe_xf (X := (cxOf CX0 P w K mg base ["call", "caught"] qual (defScope st) f cdv A outer s H E).nox) (a := x) (pn := pn) (pos := s2) ct.fld ct.val hz.zc hf (pe_var (i := 1) (pos := s1) rfl (.inl vc) (by decide) (by decide)) rfl
      refine (pss_one (ps_ret (pos := s5) (pe_ifExp (pos := s4) (pt_val is1) pf (pe_non (j := j1) (pos := s3))))).run pins s' σ H1 D I ?_
      obtain ⟨hs, fs, v, b, hdd, hval, k1, q⟩ := h
      refine ⟨hs, ⟨fs, hdd⟩, b, k1, b, rfl, ?_⟩
      cases b with
      | true =>
        rw [if_pos rfl]
        rw [if_pos rfl] at q
        exact ⟨.ref x, hs, rfl, rfl, dd, fs, v, rfl, hdd, hval, q⟩
      | false =>
        rw [if_neg Bool.false_ne_true]
        rw [if_neg Bool.false_ne_true] at q
        exact q
    · refine ⟨_, _, fun cls d H1 h => ?_, fun v H1 h => ?_, rfl, hg, ht⟩
      · obtain ⟨Dc, dd, fds, v, b, ct, e1, e2, k1, q⟩ := h
        have ec := ct.cls
        exact ⟨true, by rw [ec]; exact ct.heal, fun _ x _ => ⟨Dc, dd, ct, rfl, fds, v, b, e1, e2, k1, q⟩, fun z => Bool.noConfusion z⟩
      · exact h
end Hw

set_option Elab.async false
set_option linter.all false
set_option maxRecDepth 100000
set_option maxHeartbeats 4000000
namespace Hw
open PySem PySem.Spec L2 PyProof PyProof.Rows LamX
/-- the law's call where the law's defs make lambdas, and reprs run: lawG with tables -/
theorem lawGT {P : Program} {w : World} {K : PySem.W.Frag} {mg mb : Str → Option Value} {k : Nat} {fa a : Addr} {cs : List (Addr × Addr)} {fd : FuncData} {x : Str} {sp : Sp} {s1 : Shared} {vs : List Value} {ns : List Int}
    (KX : K.In s1.heap) (hns : s1.heap.Ns mainGlobals mg) (hb : s1.heap.Ns builtinsNs mb) (hbb : ∀ x : Str, x ≠ "__name__" → mb x = bootBuiltins x) (hlim : s1.heap.NoLimit) (hgen : s1.gens = #[])
    (hT : ∀ p ∈ cs, s1.heap.get? p.2 = some { cls := .none, data := .fields #[] }) (nT : ∀ p ∈ cs, K.lookup p.2 = none) (hC : ∀ p ∈ cs, PySem.W.CodeHd s1.heap p.1 p.2)
    (hbm : ∃ (bm : Addr) (ob : Obj), mg "__builtins__" = some (.ref bm) ∧ bm ≠ builtinsNs ∧ s1.heap.get? bm = some ob ∧ ob.cls = .type "module" ∧ ob.dict = some builtinsNs ∧ ob.data = .plain)
    (ha : s1.heap.get? a = some { cls := .type "list", data := .seq vs.toArray }) (hi : IntsAre vs ns) (hl : ns.length ≤ sizeLine) (hr : Room k callerA)
    (F : ∀ base : Heap, K.In base → base.Ns mainGlobals mg → (∀ p ∈ cs, TabB base mg p.1 p.2) → FnG P w K mg base CX0 k fa fd [x] sp) (hbind : ∀ (s : Shared) (u : Value), BindsTo s fd ⟨[u], []⟩ [(x, u)])
    (hsp : ∀ H : Hp, (∀ p ∈ cs, H p.2 = some (.tbl #[])) → SqL K H a (ns.map V.int) → sp [.ref a] H (fun v _ => v = .bl true) E0) :
    codeAny (model P w) callerA (.call (.ref fa) ⟨[.ref a], []⟩) (fun r s' => r = .ok (.ret (.bool true)) ∧ OldK s1.heap s'.heap ∧ s'.os = s1.os ∧ AllBare s'.gens) s1 := by
  have rv := vals_ints hi
  let T := cs.map (·.2)
  have inT : ∀ {b : Addr}, b ∈ T → ∃ p ∈ cs, p.2 = b := fun h => List.mem_map.mp h
  have tab : ∀ {b : Addr}, b ∈ T → s1.heap.get? b = some { cls := .none, data := .fields #[] } := fun h => by
    obtain ⟨p, hp, e⟩ := inT h
    rw [← e]; exact hT p hp
  have aT : a ∉ T := fun h => by
    have e := (tab h).symm.trans ha
    cases e
  -- what is tracked at the start: the tables, and the script where the program does not know it
  have core : ∀ H : Hp, (∀ p ∈ cs, H p.2 = some (.tbl #[])) → SqL K H a (ns.map V.int) → HOk P w H s1.heap → (∀ b, H b = none ∨ b ∈ T ∨ (b = a ∧ K.lookup a = none ∧ ∃ o xs, H b = some (.frz o (.lst xs)))) →
      codeAny (model P w) callerA (.call (.ref fa) ⟨[.ref a], []⟩) (fun r s' => r = .ok (.ret (.bool true)) ∧ OldK s1.heap s'.heap ∧ s'.os = s1.os ∧ AllBare s'.gens) s1 := by
    intro H hH hS hok only
    have free : ∀ {b : Addr} {o : Obj}, s1.heap.get? b = some o → (∀ xs n, o.data ≠ .seq xs n) → o.data ≠ .fields #[] → H b = none := fun {b o} e n1 n2 => by
      rcases only b with z | z | ⟨z, _⟩
      · exact z
      · have e' := (tab z).symm.trans e
        cases e'
        exact absurd rfl n2
      · rw [z, ha] at e
        cases e
        exact absurd rfl (n1 _ _)
    have nsH : ∀ {b : Addr} {m : Str → Option Value}, s1.heap.Ns b m → (hidT s1.heap H).Ns b m := fun {b m} ⟨o, es, ep, e, d, r⟩ =>
      ⟨o, es, ep, hidT_get e (free e (fun _ _ z => by rw [d] at z; cases z) (fun z => by rw [d] at z; cases z)), d, r⟩
    have kinH : K.In (hidT s1.heap H) := fun b o e => hidT_get (KX b o e) (by
      rcases only b with z | z | ⟨z, z2, _⟩
      · exact z
      · obtain ⟨p, hp, ep⟩ := inT z
        have := nT p hp
        rw [ep, e] at this
        cases this
      · rw [z, z2] at e
        cases e)
    have modH : Mod K mg (hidT s1.heap H) := ⟨kinH, nsH hns, ⟨mb, nsH hb, hbb⟩, let ⟨mc, h1, h2⟩ := hlim; ⟨mc, nsH h1, h2⟩⟩
    have env0 : Env0 P w K mg (hidT s1.heap H) callerA [] s1 H := ⟨rfl, modH, fun b o e => of_hidT e, Nat.le_of_eq (hidT_size _ _), trivial, fun b hb => (by cases hb), hok, .of_eq hgen⟩
    have tabB : ∀ p ∈ cs, TabB (hidT s1.heap H) mg p.1 p.2 := fun p hp => by
      refine ⟨?_, ?_, fun z => ?_⟩
      · obtain ⟨o, us, file, tf, fl, tg, inF, tx, tt, e, c1, d, i11, rest⟩ := hC p hp
        exact ⟨o, us, file, tf, fl, tg, inF, tx, tt, hidT_get e (free e (fun _ _ z => by rw [d] at z; cases z) (fun z => by rw [d] at z; cases z; cases i11)), c1, d, i11, rest⟩
      · obtain ⟨bm, ob, b1, b2, e, b4, b5, d⟩ := hbm
        refine ⟨bm, ob, b1, b2, fun z => ?_, fun z => ?_, hidT_get e (free e (fun _ _ z => by rw [d] at z; cases z) (fun z => by rw [d] at z; cases z)), b4, b5, d⟩
        · obtain ⟨o, es, ep, e', d', _⟩ := hns
          rw [z, e'] at e
          cases e
          rw [d'] at d
          cases d
        · rw [z, hT p hp] at e
          cases e
          cases d
      · obtain ⟨o, es, ep, e, d, _⟩ := hns
        rw [z, hT p hp] at e
        cases e
        cases d
    refine codeAny_mono ((F _ kinH (nsH hns) tabB).run callerA [] s1 H ⟨[.ref a], []⟩ [.ref a] [.ref a] _ _ ⟨hr, rfl⟩ env0 (hbind s1 (.ref a)) (.cons rfl .nil) (hsp H hH hS)) fun r s' h => ?_
    match r, h with
    | .error e, h => exact False.elim h
    | .ok .next, h => exact False.elim h
    | .ok .brk, h => exact False.elim h
    | .ok .cont, h => exact False.elim h
    | .ok (.ret u), h =>
      obtain ⟨v, H', os, bare, un, hok', r', q⟩ := h
      obtain rfl : v = .bl true := q
      obtain rfl : u = Value.bool true := r'
      have rest : ∀ b o, b ∉ T → s1.heap.get? b = some o → s'.heap.get? b = some o := fun b o nb e => by
        rcases only b with z | z | ⟨_, _, ob, xs, z⟩
        · exact un.keep b o e z (by intro z; cases z) (by intro z; cases z)
        · exact absurd z nb
        · have e1 := (hok b _ z).1
          rw [e] at e1
          cases e1
          exact (hok' b _ (un.frzs b _ _ z)).1
      have more : ∀ {b : Addr}, b ∈ T → ∃ p ∈ cs, p.2 = b ∧ ∃ us : Array Value, s'.heap.get? b = some { cls := .none, data := .fields us } := fun {b} h => by
        obtain ⟨p, hp, e⟩ := inT h
        obtain ⟨us, z⟩ := un.tbls p.2 #[] (hH p hp)
        exact ⟨p, hp, e, _, by rw [← e]; exact hok' p.2 _ z⟩
      refine ⟨rfl, ⟨fun b o e => ?_, fun b o e => ?_⟩, os, bare⟩
      · by_cases hbT : b ∈ T
        · obtain ⟨p, hp, ep, us, hm⟩ := more hbT
          have e' := (tab hbT).symm.trans e
          cases e'
          subst ep
          exact .inr (.inl ⟨((hC p hp).tab (hT p hp)).isCodeTable, rfl, #[], us, rfl, by rw [Array.empty_append]; exact hm⟩)
        · exact .inl (rest b o hbT e)
      · by_cases hbT : b ∈ T
        · obtain ⟨_, _, _, us, hm⟩ := more hbT
          exact ⟨_, hm⟩
        · exact ⟨o, rest b o hbT e⟩
  let H0 : Hp := fun b => if b ∈ T then some (.tbl #[]) else none
  have h0T : ∀ {b : Addr}, b ∈ T → H0 b = some (.tbl #[]) := fun h => if_pos h
  have h0N : ∀ {b : Addr}, b ∉ T → H0 b = none := fun h => if_neg h
  have ok0 : HOk P w H0 s1.heap := fun b u z => by
    by_cases h : b ∈ T
    · rw [h0T h] at z
      cases z
      exact tab h
    · rw [h0N h] at z
      cases z
  cases hk : K.lookup a with
  | some o =>
    have e := KX a o hk
    rw [ha] at e
    cases e
    refine core H0 (fun p hp => h0T (List.mem_map.mpr ⟨p, hp, rfl⟩)) (.inr ⟨_, vs.toArray, _, hk, rfl, rfl, rfl, by rw [List.size_toArray, hi.length]; exact hl, by simpa using rv⟩) ok0 fun b => ?_
    by_cases h : b ∈ T
    · exact .inr (.inl h)
    · exact .inl (h0N h)
  | none =>
    refine core (upd H0 a (.frz { cls := .type "list", data := .seq vs.toArray } (.lst (ns.map V.int)))) (fun p hp => ?_) (.inl (.inr ⟨_, upd_same⟩)) (fun b u z => ?_) fun b => ?_
    · have h : p.2 ∈ T := List.mem_map.mpr ⟨p, hp, rfl⟩
      rw [upd_ne (fun e => aT (by rw [← e]; exact h))]
      exact h0T h
    · by_cases hba : b = a
      · subst hba
        rw [upd_same] at z
        cases z
        exact ⟨ha, by rw [List.length_map]; exact hl, vs, _, rv, ha⟩
      · rw [upd_ne hba] at z
        by_cases h : b ∈ T
        · rw [h0T h] at z
          cases z
          exact tab h
        · rw [h0N h] at z
          cases z
    · by_cases hba : b = a
      · subst hba
        exact .inr (.inr ⟨rfl, hk, _, _, upd_same⟩)
      · rw [upd_ne hba]
        by_cases h : b ∈ T
        · exact .inr (.inl h)
        · exact .inl (h0N h)
/-- what is to be shown of a law whose defs make lambdas: cs, the code objects and their tables -/
structure LawG (l : PySem.W.OpenLaw) (w : World) (K : PySem.W.Frag) (k n : Nat) (x : Str) (mg : Str → Option Value) (fa : Addr) (h : Heap) (fd : FuncData) (cs : List (Addr × Addr)) (sp : Sp) : Prop where
  tabs : ∀ p ∈ cs, h.get? p.2 = some { cls := .none, data := .fields #[] }
  own : ∀ p ∈ cs, K.lookup p.2 = none
  code : ∀ p ∈ cs, PySem.W.CodeHd h p.1 p.2
  binds : ∀ (s : Shared) (u : Value), BindsTo s fd ⟨[u], []⟩ [(x, u)]
  start : ∀ (H : Hp) (a : Addr) (ns : List Int), ns.length ≤ n → (∀ z ∈ ns, Builtin.Int.intBits z ≤ 1048576) → (∀ p ∈ cs, H p.2 = some (.tbl #[])) → SqL K H a (ns.map V.int) → sp [.ref a] H (fun v _ => v = .bl true) E0
  ok : ∀ base : Heap, K.In base → base.Ns mainGlobals mg → (∀ p ∈ cs, TabB base mg p.1 p.2) → FnG l.prog w K mg base CX0 k fa fd [x] sp
theorem walkGT {l : PySem.W.OpenLaw} {n k : Nat} {q : Program} {loose : List Str} {XP : (Str → Option Value) → Heap → Prop} {YP : World → Heap → Prop} {d : DefRec} {K : Params → PySem.W.Frag} {x : Str}
    (hn : l.most = some n) (hn2 : n ≤ sizeLine) (hdf : d.params.defaults = []) (hr : Room k callerA) (hY : ∀ (w : World) (h : Heap), YP w h → (K w.params).In h)
    (F : ∀ (w : World) (mg : Str → Option Value) (fa : Addr) (h : Heap), YP w h → (K w.params).In h → h.Ns mainGlobals mg → mg d.name = some (.ref fa) → ∃ fd cs sp, LawG l w (K w.params) k n x mg fa h fd cs sp) :
    PySem.W.WalkO q loose XP YP l.row.toRowW d [] (fun f vs => PySem.call f vs) := by
  refine Att.attach_callB hn hdf fun w s0 s1 mg mb fa o pm cd doc a vs ns G Y ho hd hcd hmg hobj hints hlen hbits hgen => ?_
  have KX := hY w _ Y
  obtain ⟨fd, cs, sp, L⟩ := F w mg fa _ Y KX G.T.g hmg
  exact lawGT KX G.T.g G.T.b G.T.builtins G.T.nolimit hgen L.tabs L.own L.code G.T.bmain hobj hints (Nat.le_trans hlen hn2) hr L.ok L.binds (fun H hH hS => L.start H a ns hlen hbits hH hS)
end Hw

set_option Elab.async false
set_option linter.all false
set_option maxRecDepth 100000
set_option maxHeartbeats 4000000
namespace Hw
open PySem PySem.Spec L2 PyProof PyProof.Rows
/-- the facts of an error class, to be decided over a written part -/
def caughtB (K : PySem.W.Frag) (CS Dc : Addr) : Bool :=
  [decide (PySem.W.findIn K (.ref Dc) "__getattribute__" = some (some (.builtin "BaseException.__getattribute__"))), decide (PySem.W.findIn K (.ref Dc) "__getattr__" = some none), decide (PySem.W.subIn K (.ref Dc) (.type "BaseException") = some true),
   PySem.W.hasDictIn K Dc, decide (PySem.W.findIn K (.ref Dc) "__class__" = some (some (.builtin "object.__class__"))), decide (PySem.W.specialIn K (.builtin "object.__class__") "__get__" = some (some (.builtin "getset_descriptor.__get__"))),
   decide (PySem.W.takesIn K (.builtin "object.__class__") = some true), decide (PySem.W.mroIn K Dc (.type "object") = some true), decide (PySem.W.findIn K (.ref Dc) "value" = some none), decide (PySem.W.exmOne K (.ref Dc) (.ref CS) = some true)].all id
theorem caught_by {K : PySem.W.Frag} {CS Dc dd : Addr} (h : caughtB K CS Dc = true) : Caught K CS (.ref Dc) (some dd) Dc dd := by
  unfold caughtB at h
  simp only [List.all_cons, List.all_nil, Bool.and_true, id, Bool.and_eq_true, decide_eq_true_eq] at h
  obtain ⟨h1, h2, h3, h4, h5, h6, h7, h8, h9, h10⟩ := h
  exact ⟨rfl, rfl, h10, ⟨h1, h2, h3, h4, h5, h6, h7, h8⟩, ⟨h1, h2, h3, h4⟩, h9⟩
end Hw

set_option Elab.async false
set_option linter.all false
set_option maxRecDepth 100000
set_option maxHeartbeats 4000000
namespace Hw
open PySem PySem.Spec L2 PyProof PyProof.Rows
/-! the package's errors, raised -/
/-- a reading by any stronger wish -/
def tMono (te : TE) : TE := fun σ H Q => ∃ Q0 : VK, te σ H Q0 ∧ ∀ v H', Q0 v H' → Q v H'
theorem pe_mono {X : Cx} {e : Expr} {te : TE} (h : PE X e te) : PE X e (tMono te) := by
  refine ⟨fun pins s σ H Q I hh => ?_⟩
  obtain ⟨Q0, h0, hm⟩ := hh
  exact thn (h.run pins s σ H Q0 I h0) fun u s1 ⟨v, H1, I1, r, q⟩ => ⟨v, H1, I1, r, hm _ _ q⟩
/-- C(e): raised, it tells e's value -/
def tHeal (C : Addr) (te : TE) : L2.St → Hp → XK → Prop := fun σ H Q => te σ H fun v H1 => ∀ d, H1 d = none → Q (.ref C) (some d) (upd H1 d (.xd [("value", v)]))
theorem pmk_heal {X : Cx} {x : Str} {C fI : Addr} {k : Nat} {fd : FuncData} {e : Expr} {te : TE} {p pos : Pos} (T : XCls X.K fI C) (F1 : FnOk X.prog X.w X.K X.mg X.base CX0 k fI fd ["self", "value"] (spIniX X.K)) (hr : Room (k + 1) X.A) (hb : Binds X.K fd ["self", "value"] [])
    (hg : Gl X x) (hm : X.mg x = some (.ref C)) (ha : PE X e te) (hdb : (x == ("__debug__" : Str)) = false := by decide) (he : starEach [e] X.env = (false, eval e X.env) :: starEach [] X.env := by rfl) (hpl : (backTo pos (starEach [] X.env)).any (·.1) = false := by rfl) :
    L2N.PMk X (.Call (.Name x p) [e] [] pos) (tHeal C te) := by
  intro pins s σ H Q I h
  refine (pmk_oexN (p := p) (pos := pos) T.o T.ini T.tI F1 hr hb .nil pass0 hg hm (pa_cons (pe_mono ha) pa_nil he) hdb he hpl) pins s σ H Q I ?_
  refine ⟨_, h, fun v H1 q => ⟨by show 1 ≤ 1000; decide, fun a na => ⟨a, C, fI, v, rfl, T, upd_same, fun dx nd ne => ⟨rfl, dx, [("value", v)], upd_same, ?_, ?_, ?_⟩⟩⟩⟩
  · rw [upd_ne ne]; exact upd_same
  · rw [upd_ne ne] at nd; exact nd
  · rw [upd_ne ne] at nd
    have e : upd (del (upd (upd (upd H1 a (exo a C none)) dx (exd dx [("value", v)])) a (exo a C (some dx))) a) dx (.xd [("value", v)]) = upd H1 dx (.xd [("value", v)]) := by
      funext b
      by_cases h1 : b = dx
      · subst h1; rw [upd_same, upd_same]
      · rw [upd_ne h1, upd_ne h1]
        by_cases h2 : b = a
        · subst h2; rw [del_same]; exact na.symm
        · rw [del_ne h2, upd_ne h2, upd_ne h1, upd_ne h2]
    rw [e]
    exact q dx nd
theorem rs_expr {te : TE} {u : TS} {D : Ends} {σ : L2.St} {H : Hp} (h : te σ H fun _ H1 => u D σ H1) : tSeq (tDrop te) u D σ H := h
/-- as Fun.ok, for a def that may raise, the exception's context being None -/
theorem okN {P : Program} {w : World} {K : PySem.W.Frag} {mg : Str → Option Value} {base : Heap} {x qual : Str} {st : Stmt} {f : Addr} {fd : FuncData} {N ps : List Str} {k : Nat} {sp : Sp} (F : Fun K x qual st f fd) (S : FnScope N ps (defScope st)) (len : ∀ vs H Q E, sp vs H Q E → vs.length = ps.length)
    (hbody : ∀ (cdv : Value) (A : Around) (outer : List Env) (s : Shared) (H : Hp) (vs : List V) (Q : VK) (E : XK), Room k (A.deeper (envOfC qual (defScope st) s.heap.objs.size f cdv)) → sp vs H Q E →
      ∃ t, PSs (cxOf (L2N.CX P w) P w K mg base N qual (defScope st) f cdv A outer s H E) (defBody st) t ∧ t { nx := fun _ H' => Q .non H', rt := Q } (start N vs) H) : FnOk P w K mg base (L2N.CX P w) (k + 1) f fd ps sp := by
  obtain ⟨oc, od, kV, doc, pm, an, cdv, ct, osl, rfl, lk, hcd⟩ := F.ex
  exact fn_of lk hcd S len fun A outer s H vs Q E hr hsp => hbody cdv A outer s H vs Q E hr hsp
section
variable {P : Program} {w : World} {K : PySem.W.Frag} {mg : Str → Option Value} {base : Heap} {N : List Str} {qual : Str} {sc : Scope} {f : Addr} {cdv : Value} {A : Around} {outer : List Env} {s : Shared} {H : Hp} {E : XK}
theorem takesN : L2N.Takes (cxOf (L2N.CX P w) P w K mg base N qual sc f cdv A outer s H E) (fun cls d _ H => E cls d H) := L2N.takes_of rfl rfl rfl rfl
theorem passN : Passes (L2N.CX P w) (cxOf (L2N.CX P w) P w K mg base N qual sc f cdv A outer s H E) E := L2N.passes_call takesN fun _ _ _ _ h => h
/-- raise C(e), in a def made by okN -/
theorem ps_heal {x : Str} {C fI : Addr} {k : Nat} {fd : FuncData} {e : Expr} {te : TE} {p pos pos2 : Pos} (T : XCls K fI C) (F1 : FnOk P w K mg base CX0 k fI fd ["self", "value"] (spIniX K)) (hr : Room (k + 1) (A.deeper (envOfC qual sc s.heap.objs.size f cdv))) (hb : Binds K fd ["self", "value"] [])
    (hg : Gl (cxOf (L2N.CX P w) P w K mg base N qual sc f cdv A outer s H E) x) (hm : mg x = some (.ref C)) (ha : PE (cxOf (L2N.CX P w) P w K mg base N qual sc f cdv A outer s H E) e te) (hdb : (x == ("__debug__" : Str)) = false := by decide)
    (he : starEach [e] (cxOf (L2N.CX P w) P w K mg base N qual sc f cdv A outer s H E).env = (false, eval e (cxOf (L2N.CX P w) P w K mg base N qual sc f cdv A outer s H E).env) :: starEach [] (cxOf (L2N.CX P w) P w K mg base N qual sc f cdv A outer s H E).env := by rfl) (hpl : (backTo pos (starEach [] (cxOf (L2N.CX P w) P w K mg base N qual sc f cdv A outer s H E).env)).any (·.1) = false := by rfl) :
    PS (cxOf (L2N.CX P w) P w K mg base N qual sc f cdv A outer s H E) (.Raise (some (.Call (.Name x p) [e] [] pos)) none pos2) (fun _ σ H1 => te σ H1 fun v H2 => ∀ d, H2 d = none → E (.ref C) (some d) (upd H2 d (.xd [("value", v)]))) :=
  L2N.ps_raise rfl takesN (pmk_heal T F1 hr hb hg hm ha hdb he hpl)
end
end Hw

set_option Elab.async false
set_option linter.all false
set_option maxRecDepth 100000
set_option maxHeartbeats 2000000
namespace Hw
open PySem PySem.Spec PyProof.Rows L2
/-! xs != [], xs == [], whatever stands in xs -/
def rNilL (neg : Bool) (K : PySem.W.Frag) : R2 := fun x y H Q => ∃ (a b : Addr) (xs : List V), x = .ref a ∧ y = .ref b ∧ SqL K H a xs ∧ SqL K H b [] ∧ Q (.bl (if neg then !xs.isEmpty else xs.isEmpty)) H
section
variable {X : Cx}
theorem op_neNilL (hu : X.A.units < cLine) : OpR X (compareOp .NotEq) (rNilL true X.K) := by
  intro pins s σ H x y v u Q I rx ry h
  obtain ⟨a, b, xs, rfl, rfl, ha, hb, q⟩ := h
  cases rx
  cases ry
  obtain ⟨its, rv, ⟨⟨c1, d1, D1, s1⟩, n1, o1, e1, m1, f1⟩, _⟩ := I.list ha
  obtain ⟨its2, rv2, ⟨⟨c2, d2, D2, s2⟩, n2, o2, e2, m2, f2⟩, _⟩ := I.list hb
  simp only at e1 f1 e2 f2
  subst e1 f1 e2 f2
  have l1 := rv.length
  have l2 := rv2.length
  cases xs with
  | nil =>
    exact richCompare_meets_room (op := .NotEq) ⟨_, o1, rfl⟩ ⟨_, o2, rfl⟩ F.slot_list_ne F.entry_list_ne (F.args_list_ne_2 _ _) (SeqAt.list_neAt a b its.toArray its2.toArray _ _ d1 d2 s1 s2 (by simp only [List.size_toArray]; rw [← l1, ← l2]) (fun _ => true))
      ⟨o1, o2, fun j h1 _ => absurd h1 (by simp only [List.size_toArray]; rw [← l1]; exact Nat.not_lt_zero _), show _ ≠ _ ∧ _ from ⟨(fun z => nomatch z), .bl false, H, I, by
        have e : its = [] := List.length_eq_zero_iff.mp (by rw [← l1]; rfl)
        rw [e]; rfl, q⟩⟩ hu
  | cons x xs =>
    exact richCompare_meets_room (op := .NotEq) ⟨_, o1, rfl⟩ ⟨_, o2, rfl⟩ F.slot_list_ne F.entry_list_ne (F.args_list_ne_2 _ _) (SeqAt.list_ne_lengthsAt a b its.toArray its2.toArray _ _ d1 d2 s1 s2 (by simp only [List.size_toArray]; rw [← l1, ← l2]; rfl))
      ⟨o1, o2, show _ ≠ _ ∧ _ from ⟨(fun z => nomatch z), .bl true, H, I, rfl, q⟩⟩ hu
theorem op_eqNilL (hu : X.A.units < cLine) : OpR X (compareOp .Eq) (rNilL false X.K) := by
  intro pins s σ H x y v u Q I rx ry h
  obtain ⟨a, b, xs, rfl, rfl, ha, hb, q⟩ := h
  cases rx
  cases ry
  obtain ⟨its, rv, pl, _⟩ := I.list ha
  obtain ⟨its2, rv2, pl2, _⟩ := I.list hb
  have l1 := rv.length
  have l2 := rv2.length
  cases xs with
  | nil =>
    have e : its = [] := List.length_eq_zero_iff.mp (by rw [← l1]; rfl)
    refine SeqAt.eq_listAt (e := fun _ => true) pl.isList pl2.isList (by simp only [List.size_toArray]; rw [← l1, ← l2]) hu (fun j h1 _ => absurd h1 (by simp only [List.size_toArray]; rw [← l1]; exact Nat.not_lt_zero _)) ⟨.bl true, H, I, ?_, q⟩
    rw [e]; rfl
  | cons x xs => exact SeqAt.eq_list_lengthsAt pl.isList pl2.isList (by simp only [List.size_toArray]; rw [← l1, ← l2]; rfl) hu ⟨.bl false, H, I, rfl, q⟩
end
end Hw

set_option Elab.async false
set_option linter.all false
set_option maxRecDepth 100000
set_option maxHeartbeats 2000000
namespace PySem
theorem nP_sub_str_dict : isSubtype (.type "str") (.type "dict") = pure false := by rw [isSubtype_type]; kernel_rfl
theorem nP_sub_dict_str : isSubtype (.type "dict") (.type "str") = pure false := by rw [isSubtype_type]; kernel_rfl
end PySem
namespace PySem.SeqAt
open PyProof.Rows
theorem dict_eq_declines_str (l : Addr) (o : Obj) (ho : o.cls = .type "dict") (b : Str) (u : Tok) :
    Meets (Builtin.«dict.__eq__» ⟨[.ref l, .str b u], []⟩) (fun _ R s => s.heap.get? l = some o ∧ R (.ok (.ret .notImplemented)) s) :=
  .of_wp fun prog w A R s h => by obtain ⟨hp, g, d, tk, os⟩ := s; obtain ⟨hl, h⟩ := h; have f1 := nP_sub_str_dict; wp_walk; exact ⟨_, rfl, h⟩
theorem str_eq_declines_dict (b : Str) (u : Tok) (l : Addr) (dd : Option Addr) (es : Array DictEntry) (n : Nat) (sl : Array (Option Value)) :
    Meets (Builtin.«str.__eq__» ⟨[.str b u, .ref l], []⟩) (fun _ R s => s.heap.get? l = some { cls := .type "dict", dict := dd, data := .dict es n, slots := sl } ∧ R (.ok (.ret .notImplemented)) s) :=
  .of_wp fun prog w A R s h => by obtain ⟨hp, g, d, tk, os⟩ := s; obtain ⟨hl, h⟩ := h; wp_walk using wpAny_loadPart' hl, wpAny_load hl; exact ⟨_, rfl, h⟩
theorem RcAt.dict_str {A : Around} {s : Shared} {l : Addr} {o : Obj} {es : Array DictEntry} {n : Nat} (b : Str) (u : Tok) (ho : s.heap.get? l = some o) (hc : o.cls = .type "dict") (hd : o.data = .dict es n) (hu : A.units < cLine) : RcAt A s (.ref l) (.str b u) false := fun prog w E Q h => by
  obtain ⟨cls, dd, data, sl⟩ := o
  simp only at hc hd
  subst hc hd
  exact rc_eq_decline_or (k := false) ⟨_, ho, rfl⟩ (typeIs_str s b u) (by decide) nP_sub_str_dict F.slot_dict_eq F.slot_str_eq_refl
    (fun _ hq => call_meets F.slot_dict_eq ⟨_, ho, rfl⟩ F.entry_dict_eq (F.args_dict_eq_2 _ _) (dict_eq_declines_str l _ rfl b u) ⟨ho, hq⟩)
    (fun _ hq => call_meets F.slot_str_eq_refl (typeIs_str s b u) F.entry_str_eq (F.args_str_eq_2 _ _) (str_eq_declines_dict b u l dd es n sl) ⟨ho, hq⟩)
    (fun _ hq => wpAny_of_eq (rfl : isSame (.ref l) (.str b u) = pure false) hq) (.inr hu) h
end PySem.SeqAt
namespace Hw
open PySem PySem.Spec PyProof.Rows L2
/-! x == z, x any data, z a text -/
def isTx (z : Str) : PyData → Bool
  | .str y => decide (y = z)
  | _ => false
def rEqTx : R2 := fun x y H Q => ∃ (a : Addr) (d : PyData) (z : Str), Dx a H x d ∧ y = .str z ∧ Q (.bl (isTx z d)) H
theorem op_eqTx {X : Cx} (hu : X.A.units < cLine) : OpR X (compareOp .Eq) rEqTx := by
  intro pins s σ H x y v u Q I rx ry h
  obtain ⟨a, d, z, hd, rfl, q⟩ := h
  obtain ⟨t, rfl⟩ := ry
  cases hd with
  | flat e =>
    refine op_eq pins s σ H _ (.str z) v (.str z t) Q I rx ⟨t, rfl⟩ ?_
    cases x with
    | non => cases e; exact ⟨rfl, by rw [show decide (V.non = V.str z) = false from decide_eq_false (fun y => nomatch y)]; exact q⟩
    | bl b => cases e; exact ⟨rfl, by rw [show decide (V.bl b = V.str z) = false from decide_eq_false (fun y => nomatch y)]; exact q⟩
    | int b => cases e; exact ⟨rfl, by rw [show decide (V.int b = V.str z) = false from decide_eq_false (fun y => nomatch y)]; exact q⟩
    | str b =>
      cases e
      refine ⟨rfl, ?_⟩
      have e2 : decide (V.str b = V.str z) = decide (b = z) := by
        rw [decide_eq_decide]
        exact ⟨fun y => V.str.inj y, fun y => by rw [y]⟩
      rw [e2]
      exact q
    | byt b => cases e
    | flt b => cases e
    | ref a => cases e
    | ty n => cases e
  | lst h1 h2 h3 =>
    cases rx
    obtain ⟨its, rv, pl, _⟩ := I.list (sql_of h1)
    exact SeqAt.RcAt.list_str z t pl.isList hu X.prog X.w _ _ ⟨.bl false, H, I, rfl, q⟩
  | tup h1 h2 h3 =>
    cases rx
    obtain ⟨its, rv, pl, _⟩ := I.tuple (sqt_of h1)
    exact SeqAt.RcAt.tuple_str z t pl hu X.prog X.w _ _ ⟨.bl false, H, I, rfl, q⟩
  | dct h1 h2 h3 h4 =>
    cases rx
    obtain ⟨_, _, vs, rel, o, es, ep, ho, hx, hdat, _⟩ := dk_of I.hok h1
    exact SeqAt.RcAt.dict_str z t ho hx.1 hdat hu X.prog X.w _ _ ⟨.bl false, H, I, rfl, q⟩
end Hw

set_option Elab.async false
set_option linter.all false
set_option maxRecDepth 100000
set_option maxHeartbeats 4000000
namespace Hw
open PySem L2 PyProof.Rows
abbrev sWithin : Stmt := topS 1
abbrev sIniH : Stmt := inClass (topS 4) 0
section
variable {P : Program} {w : World} {K : PySem.W.Frag} {mg : Str → Option Value} {base : Heap}
theorem scIniH : FnScope ["self", "value"] ["self", "value"] (defScope sIniH) := ⟨rfl, rfl, rfl, by decide +kernel, rfl, by decide +kernel, by decide +kernel⟩
/-- HealError.__init__ -/
theorem ok_iniH {f : Addr} {fd : FuncData} {k : Nat} (F : Fun K "__init__" "HealError.__init__" sIniH f fd) : FnOk P w K mg base CX0 (k + 1) f fd ["self", "value"] (spIniX K) := by
  refine F.ok scIniH (fun vs H Q E h => ?_) (fun cdv A outer s H vs Q E hr h => ?_)
  · obtain ⟨a, C, fI, v, rfl, _⟩ := h
    rfl
  · obtain ⟨a, C, fI, v, rfl, T, ha, q⟩ := h
    refine ⟨_, pss_one (ps_ost (pv 0) (pv 1) rfl), ?_⟩
    exact ⟨v, rfl, .ref a, rfl, a, C, rfl, T.o, T.noV, .inl ⟨ha, q⟩⟩
end
/-! what isinstance says of data -/
def tyD : PyData → String
  | .none => "NoneType"
  | .bool _ => "bool"
  | .int _ => "int"
  | .str _ => "str"
  | .list _ => "list"
  | .tuple _ => "tuple"
  | .dict _ => "dict"
theorem Dx.tyx {K : PySem.W.Frag} {a : Addr} {H : Hp} {v : V} {d : PyData} (h : Dx a H v d) : TyX K H v (.type (tyD d)) := by
  cases h with
  | flat e =>
    cases v with
    | non => cases e; exact .base .non
    | bl b => cases e; exact .base (.bl b)
    | int i => cases e; exact .base (.int i)
    | str x => cases e; exact .base (.str x)
    | byt b => cases e
    | flt b => cases e
    | ref a => cases e
    | ty n => cases e
  | lst h1 _ _ => exact .base (.lst h1)
  | tup h1 _ _ => exact .base (.tup h1)
  | dct h1 _ _ _ => exact .base (.dK h1)
def isStrD : PyData → Bool
  | .str _ => true
  | _ => false
def isIntD : PyData → Bool
  | .int _ => true
  | .bool _ => true
  | _ => false
def isBoolD : PyData → Bool
  | .bool _ => true
  | _ => false
theorem kit_str {K : PySem.W.Frag} (d : PyData) : PySem.W.kitOne K (.type (tyD d)) (.type "str") = some (isStrD d) := by
  cases d with
  | none => exact kit_ty (show kitB "NoneType" "str" = some false by decide +kernel)
  | bool b => exact kit_ty (show kitB "bool" "str" = some false by decide +kernel)
  | int i => exact kit_ty (show kitB "int" "str" = some false by decide +kernel)
  | str x => exact kit_ty (show kitB "str" "str" = some true by decide +kernel)
  | list l => exact kit_ty (show kitB "list" "str" = some false by decide +kernel)
  | tuple l => exact kit_ty (show kitB "tuple" "str" = some false by decide +kernel)
  | dict l => exact kit_ty (show kitB "dict" "str" = some false by decide +kernel)
theorem kit_int {K : PySem.W.Frag} (d : PyData) : PySem.W.kitOne K (.type (tyD d)) (.type "int") = some (isIntD d) := by
  cases d with
  | none => exact kit_ty (show kitB "NoneType" "int" = some false by decide +kernel)
  | bool b => exact kit_ty (show kitB "bool" "int" = some true by decide +kernel)
  | int i => exact kit_ty (show kitB "int" "int" = some true by decide +kernel)
  | str x => exact kit_ty (show kitB "str" "int" = some false by decide +kernel)
  | list l => exact kit_ty (show kitB "list" "int" = some false by decide +kernel)
  | tuple l => exact kit_ty (show kitB "tuple" "int" = some false by decide +kernel)
  | dict l => exact kit_ty (show kitB "dict" "int" = some false by decide +kernel)
theorem kit_bool {K : PySem.W.Frag} (d : PyData) : PySem.W.kitOne K (.type (tyD d)) (.type "bool") = some (isBoolD d) := by
  cases d with
  | none => exact kit_ty (show kitB "NoneType" "bool" = some false by decide +kernel)
  | bool b => exact kit_ty (show kitB "bool" "bool" = some true by decide +kernel)
  | int i => exact kit_ty (show kitB "int" "bool" = some false by decide +kernel)
  | str x => exact kit_ty (show kitB "str" "bool" = some false by decide +kernel)
  | list l => exact kit_ty (show kitB "list" "bool" = some false by decide +kernel)
  | tuple l => exact kit_ty (show kitB "tuple" "bool" = some false by decide +kernel)
  | dict l => exact kit_ty (show kitB "dict" "bool" = some false by decide +kernel)
theorem Dx.int {a : Addr} {H : Hp} {v : V} {i : Int} (h : Dx a H v (.int i)) : v = .int i := by
  cases h with
  | flat e => cases v <;> first | (cases e; rfl) | cases e
theorem Dx.str {a : Addr} {H : Hp} {v : V} {z : Str} (h : Dx a H v (.str z)) : v = .str z := by
  cases h with
  | flat e => cases v <;> first | (cases e; rfl) | cases e
/-- texts of a tuple of the module -/
def strOf : Value → Option Str
  | .str z _ => some z
  | _ => none
def tupStrB (K : PySem.W.Frag) (a : Addr) (xs : List Str) : Bool := match K.lookup a with
  | some ⟨.type "tuple", _, .seq its _, _⟩ => its.toList.map strOf == xs.map some && decide (its.size ≤ 1000)
  | _ => false
theorem vals_strOf : ∀ {us : List Value} {xs : List Str}, us.map strOf = xs.map some → Vals (xs.map V.str) us
  | [], [], _ => .nil
  | [], _ :: _, e => by cases e
  | _ :: _, [], e => by cases e
  | u :: us, x :: xs, e => by
    injection e with e1 e2
    refine .cons ?_ (vals_strOf e2)
    cases u <;> first | (cases e1; exact ⟨_, rfl⟩) | cases e1
theorem tupStrB_ok {K : PySem.W.Frag} {a : Addr} {xs : List Str} (h : tupStrB K a xs = true) (H : Hp) : SqT K H a (xs.map V.str) := by
  unfold tupStrB at h
  split at h
  · rename_i dd its n sl ho
    simp only [Bool.and_eq_true, beq_iff_eq, decide_eq_true_eq] at h
    exact .inr ⟨_, its, _, ho, rfl, rfl, by rw [sizeLine_eq]; omega, vals_strOf h.1⟩
  · cases h
def rulesL : List Str := ["none", "line", "ring", "star", "least", "all"]
def breaksL : List Str := ["more", "far", "parted", "changes"]
def isRuleD : PyData → Bool
  | .str z => decide (z ∈ rulesL)
  | _ => false
def isKindD : PyData → Bool
  | .str z => decide (z ∈ breaksL)
  | _ => false
def withinD (lo hi : Int) : PyData → Bool
  | .int g => decide (lo ≤ g ∧ g ≤ hi)
  | _ => false
def goalD (dk dg : PyData) : Bool := match dk with
  | .str z => if z = "parted" then withinD 0 0 dg else withinD 1 40 dg
  | _ => withinD 1 40 dg
theorem inV_strs {z : Str} {xs : List Str} : inV (V.str z) (xs.map V.str) = decide (z ∈ xs) := by
  unfold inV
  rw [List.any_map]
  induction xs with
  | nil => rfl
  | cons x xs ih =>
    rw [List.any_cons, ih]
    by_cases h : z = x
    · subst h
      simp [eqV]
    · have : ¬ x = z := fun e => h e.symm
      simp [eqV, h, this]
theorem all_flat_strs (xs : List Str) : (xs.map V.str).all flatV = true := by
  rw [List.all_map]
  exact List.all_eq_true.mpr fun _ _ => rfl
def spWithinA : Sp := fun vs H Q _ => ∃ (v : V) (a : Addr) (d : PyData) (lo hi : Int), vs = [v, .int lo, .int hi] ∧ Dx a H v d ∧ Q (.bl (withinD lo hi d)) H
def spChkR (cR : Addr) : Sp := fun vs H Q E => ∃ (v : V) (a : Addr) (d : PyData), vs = [v] ∧ Dx a H v d ∧ (isRuleD d = true → Q .non H) ∧ (isRuleD d = false → ∀ dd, H dd = none → E (.ref cR) (some dd) (upd H dd (.xd [("value", v)])))
section
variable {P : Program} {w : World} {K : PySem.W.Frag} {mg : Str → Option Value} {base : Heap}
theorem scWithin : FnScope ["value", "least", "most"] ["value", "least", "most"] (defScope sWithin) := ⟨rfl, rfl, rfl, by decide +kernel, rfl, by decide +kernel, by decide +kernel⟩
theorem ok_withinA {f : Addr} {fd : FuncData} {k : Nat} (F : Fun K "is_within" "is_within" sWithin f fd) (B : Blt mg) (bi : mg "isinstance" = none) (bb : mg "bool" = none) : FnOk P w K mg base CX0 (k + 1) f fd ["value", "least", "most"] spWithinA := by
  refine F.ok scWithin (fun vs H Q E h => ?_) (fun cdv A outer s H vs Q E hr h => ?_)
  · obtain ⟨v, a, d, lo, hi, rfl, _⟩ := h
    rfl
  · obtain ⟨v, a, d, lo, hi, rfl, hd, q⟩ := h
    refine ⟨_, pss_cons (ps_if (PW.pt (pw_or (pt_not (pt_val (pe_callB call_isi (by rfl) bi PyProof.Rows.boot_isinstance (pa_cons (pv 0) (pa_cons (pe_bltn (v := .ty "int") (by rfl) B.int (by decide +kernel) rfl) pa_nil)))))
        (pw_or1 (pt_val (pe_callB call_isi (by rfl) bi PyProof.Rows.boot_isinstance (pa_cons (pv 0) (pa_cons (pe_bltn (v := .ty "bool") (by rfl) bb (by decide +kernel) rfl) pa_nil))))))) (pss_one (ps_ret pe_bl)) pss_nil)
      (pss_one (ps_ret (pe_chain op_le op_le (pv 1) (pv 0) (pv 2)))), ?_⟩
    refine rs_no ?_
    refine ⟨v, rfl, v, .ty "int", .type (tyD d), .type "int", isIntD d, rfl, .ty _, hd.tyx, kit_int d, isIntD d, rfl, ?_⟩
    by_cases hi' : isIntD d = true
    · rw [hi']
      refine ⟨v, rfl, v, .ty "bool", .type (tyD d), .type "bool", isBoolD d, rfl, .ty _, hd.tyx, kit_bool d, isBoolD d, rfl, ?_⟩
      by_cases hb : isBoolD d = true
      · rw [hb]
        show if true = true then _ else _
        rw [if_pos rfl]
        have e : withinD lo hi d = false := by cases d <;> first | rfl | cases hb
        rw [e] at q
        exact q
      · rw [Bool.not_eq_true] at hb
        rw [hb]
        show if false = true then _ else _
        rw [if_neg Bool.false_ne_true]
        obtain ⟨g, rfl⟩ : ∃ g, d = .int g := by
          cases d with
          | int g => exact ⟨g, rfl⟩
          | bool b => cases hb
          | _ => cases hi'
        obtain rfl := hd.int
        refine ⟨.int lo, rfl, .int g, rfl, lo, g, rfl, rfl, decide (lo ≤ g), rfl, ?_⟩
        by_cases h1 : lo ≤ g
        · rw [decide_eq_true h1]
          refine ⟨.int hi, rfl, g, hi, rfl, rfl, ?_⟩
          have e : decide (g ≤ hi) = withinD lo hi (.int g) := by simp [withinD, h1]
          show Q (.bl (decide (g ≤ hi))) H
          rw [e]; exact q
        · rw [decide_eq_false h1]
          have e : withinD lo hi (.int g) = false := decide_eq_false fun z => h1 z.1
          rw [e] at q; exact q
    · rw [Bool.not_eq_true] at hi'
      rw [hi']
      show if true = true then _ else _
      rw [if_pos rfl]
      have e : withinD lo hi d = false := by cases d <;> first | rfl | cases hi'
      rw [e] at q
      exact q
end
end Hw

set_option Elab.async false
set_option linter.all false
set_option maxRecDepth 100000
set_option maxHeartbeats 4000000
namespace HI
open PySem L2 PyProof.Rows Hw
abbrev sLisInt : Stmt := topS 28
def isTupD : PyData → Bool
  | .tuple _ => true
  | _ => false
theorem kit_tuple {K : PySem.W.Frag} (d : PyData) : PySem.W.kitOne K (.type (tyD d)) (.type "tuple") = some (isTupD d) := by
  cases d with
  | none => exact kit_ty (show kitB "NoneType" "tuple" = some false by decide +kernel)
  | bool b => exact kit_ty (show kitB "bool" "tuple" = some false by decide +kernel)
  | int i => exact kit_ty (show kitB "int" "tuple" = some false by decide +kernel)
  | str x => exact kit_ty (show kitB "str" "tuple" = some false by decide +kernel)
  | list l => exact kit_ty (show kitB "list" "tuple" = some false by decide +kernel)
  | tuple l => exact kit_ty (show kitB "tuple" "tuple" = some true by decide +kernel)
  | dict l => exact kit_ty (show kitB "dict" "tuple" = some false by decide +kernel)
theorem dx_tup {a : Addr} {H : Hp} {v : V} {ds : List PyData} (h : Dx a H v (.tuple ds)) : ∃ t xs, v = .ref t ∧ H t = some (.tup xs) ∧ t ≠ a ∧ DxAll a H xs ds := by
  cases h with
  | flat e => cases v <;> cases e
  | tup h1 h2 h3 => exact ⟨_, _, rfl, h1, h2, h3⟩
theorem dx_get {a : Addr} {H : Hp} : ∀ {xs : List V} {ds : List PyData} {i : Nat} {v : V}, DxAll a H xs ds → xs[i]? = some v → ∃ d, ds[i]? = some d ∧ Dx a H v d
  | _, _, _, _, .nil, e => by simp at e
  | _, _, 0, _, .cons x _, e => by
    simp at e; subst e
    exact ⟨_, rfl, x⟩
  | _, _, i + 1, v, .cons _ t, e => by
    obtain ⟨d, h1, h2⟩ := dx_get (i := i) t (by simpa using e)
    exact ⟨d, by simpa using h1, h2⟩
theorem isTup_ex {d : PyData} (h : isTupD d = true) : ∃ ds, d = .tuple ds := by
  cases d with
  | tuple ds => exact ⟨ds, rfl⟩
  | _ => cases h
def limD : PyData → Bool
  | .tuple ds => decide (1 ≤ ds.length ∧ ds.length ≤ 200) && ds.all (withinD 0 200)
  | _ => false
theorem limD_no {d : PyData} (h : isTupD d = false) : limD d = false := by cases d <;> first | rfl | cases h
theorem limD_in {ds : List PyData} (h : 1 ≤ ds.length ∧ ds.length ≤ 200) : limD (.tuple ds) = (ds.map (withinD 0 200)).all id := by
  show (decide (1 ≤ ds.length ∧ ds.length ≤ 200) && ds.all (withinD 0 200)) = _
  rw [decide_eq_true h, List.all_map]; rfl
theorem limD_out {ds : List PyData} (h : ¬ (1 ≤ ds.length ∧ ds.length ≤ 200)) : limD (.tuple ds) = false := by
  show (decide (1 ≤ ds.length ∧ ds.length ≤ 200) && ds.all (withinD 0 200)) = _
  rw [decide_eq_false h]; rfl
structure Lims (ls : List Int) : Prop where
  one : 1 ≤ ls.length
  most : ls.length ≤ 200
  each : ∀ l ∈ ls, 0 ≤ l ∧ l ≤ 200
theorem within_ints {a : Addr} {H : Hp} {lo hi : Int} : ∀ {xs : List V} {ds : List PyData}, DxAll a H xs ds → ds.all (withinD lo hi) = true → ∃ ls : List Int, ds = ls.map PyData.int ∧ xs = ls.map V.int ∧ ∀ l ∈ ls, lo ≤ l ∧ l ≤ hi
  | _, _, .nil, _ => ⟨[], rfl, rfl, fun _ h => nomatch h⟩
  | _, _, .cons (d := d) x t, h => by
    rw [List.all_cons, Bool.and_eq_true] at h
    obtain ⟨ls, e1, e2, e3⟩ := within_ints t h.2
    obtain ⟨g, rfl⟩ : ∃ g, d = .int g := by
      cases d with
      | int g => exact ⟨g, rfl⟩
      | _ => exact absurd h.1 (by simp [withinD])
    obtain rfl := x.int
    refine ⟨g :: ls, by rw [e1]; rfl, by rw [e2]; rfl, fun l hl => ?_⟩
    rcases List.mem_cons.mp hl with rfl | hl
    · have := h.1
      simpa [withinD] using this
    · exact e3 l hl
/-- limits as they lie there -/
theorem limD_ex {a : Addr} {H : Hp} {v : V} {d : PyData} (x : Dx a H v d) (h : limD d = true) : ∃ t ls, v = .ref t ∧ d = .tuple (ls.map PyData.int) ∧ t ≠ a ∧ H t = some (.tup (ls.map V.int)) ∧ Lims ls := by
  obtain ⟨ds, rfl⟩ : ∃ ds, d = .tuple ds := by
    cases d with
    | tuple ds => exact ⟨ds, rfl⟩
    | _ => cases h
  obtain ⟨t, xs, rfl, e, ne, xa⟩ := dx_tup x
  unfold limD at h
  rw [Bool.and_eq_true] at h
  obtain ⟨ls, rfl, rfl, w⟩ := within_ints xa h.2
  have hl := of_decide_eq_true h.1
  rw [List.length_map] at hl
  exact ⟨t, ls, rfl, rfl, ne, e, ⟨hl.1, hl.2, w⟩⟩
def spIsLims : Sp := fun vs H Q _ => ∃ (v : V) (a : Addr) (d : PyData), vs = [v] ∧ Dx a H v d ∧ ∀ H', Same H H' → Q (.bl (limD d)) H'
def spChkLim (c : Addr) : Sp := fun vs H Q E => ∃ (v : V) (a : Addr) (d : PyData), vs = [v] ∧ Dx a H v d ∧ (limD d = true → ∀ H', Same H H' → Q .non H') ∧ (limD d = false → ∀ dd H', Same H H' → H' dd = none → E (.ref c) (some dd) (upd H' dd (.xd [("value", v)])))
def treeB (ls : List Int) : Bool := !(decide (1 < ls.length) && (decide (0 ∈ ls) || decide (ls.sum < 2 * ((ls.length : Int) - 1))))
def spChkTree (c : Addr) : Sp := fun vs H Q E => ∃ (t : Addr) (ls : List Int), vs = [.ref t] ∧ H t = some (.tup (ls.map V.int)) ∧ (treeB ls = true → Q .non H) ∧ (treeB ls = false → ∀ dd, H dd = none → E (.ref c) (some dd) (upd H dd (.xd [("value", .ref t)])))
theorem inV_ints {z : Int} {ls : List Int} : inV (V.int z) (ls.map V.int) = decide (z ∈ ls) := by
  unfold inV
  rw [List.any_map]
  induction ls with
  | nil => rfl
  | cons x xs ih =>
    rw [List.any_cons, ih]
    by_cases h : z = x
    · subst h
      simp [eqV]
    · have : ¬ x = z := fun e => h e.symm
      simp [eqV, h, this]
theorem all_flat_ints (ls : List Int) : (ls.map V.int).all flatV = true := by
  rw [List.all_map]
  exact List.all_eq_true.mpr fun _ _ => rfl
section
variable {P : Program} {w : World} {K : PySem.W.Frag} {mg : Str → Option Value} {base : Heap}
theorem scLisInt : FnScope ["value", "least", "most"] ["value", "least", "most"] (defScope sLisInt) := ⟨rfl, rfl, rfl, by decide +kernel, rfl, by decide +kernel, by decide +kernel⟩
theorem ok_lisint {f : Addr} {fd : FuncData} {k : Nat} (F : Fun K "_law_is_int" "_law_is_int" sLisInt f fd) (B : Blt mg) (bi : mg "isinstance" = none) (bb : mg "bool" = none) : FnOk P w K mg base CX0 (k + 1) f fd ["value", "least", "most"] spWithinA := by
  refine F.ok scLisInt (fun vs H Q E h => ?_) (fun cdv A outer s H vs Q E hr h => ?_)
  · obtain ⟨v, a, d, lo, hi, rfl, _⟩ := h
    rfl
  · obtain ⟨v, a, d, lo, hi, rfl, hd, q⟩ := h
    refine ⟨_, pss_one (ps_ret (pe_and (pe_callB call_isi (by rfl) bi PyProof.Rows.boot_isinstance (pa_cons (pv 0) (pa_cons (pe_bltn (v := .ty "int") (by rfl) B.int (by decide +kernel) rfl) pa_nil)))
      (pe_and (pe_not (pe_callB call_isi (by rfl) bi PyProof.Rows.boot_isinstance (pa_cons (pv 0) (pa_cons (pe_bltn (v := .ty "bool") (by rfl) bb (by decide +kernel) rfl) pa_nil)))) (pe_one (pe_chain op_le op_le (pv 1) (pv 0) (pv 2)))))), ?_⟩
    refine ⟨v, rfl, v, .ty "int", .type (tyD d), .type "int", isIntD d, rfl, .ty _, hd.tyx, kit_int d, isIntD d, rfl, ?_⟩
    by_cases hi' : isIntD d = true
    · rw [hi']
      refine ⟨v, rfl, v, .ty "bool", .type (tyD d), .type "bool", isBoolD d, rfl, .ty _, hd.tyx, kit_bool d, isBoolD d, rfl, !isBoolD d, rfl, ?_⟩
      by_cases hb : isBoolD d = true
      · rw [hb]
        show Q (.bl false) H
        have e : withinD lo hi d = false := by cases d <;> first | rfl | cases hb
        rw [e] at q
        exact q
      · rw [Bool.not_eq_true] at hb
        rw [hb]
        show if true = true then _ else _
        rw [if_pos rfl]
        obtain ⟨g, rfl⟩ : ∃ g, d = .int g := by
          cases d with
          | int g => exact ⟨g, rfl⟩
          | bool b => cases hb
          | _ => cases hi'
        obtain rfl := hd.int
        refine ⟨.int lo, rfl, .int g, rfl, lo, g, rfl, rfl, decide (lo ≤ g), rfl, ?_⟩
        by_cases h1 : lo ≤ g
        · rw [decide_eq_true h1]
          refine ⟨.int hi, rfl, g, hi, rfl, rfl, ?_⟩
          have e : decide (g ≤ hi) = withinD lo hi (.int g) := by simp [withinD, h1]
          show Q (.bl (decide (g ≤ hi))) H
          rw [e]; exact q
        · rw [decide_eq_false h1]
          have e : withinD lo hi (.int g) = false := decide_eq_false fun z => h1 z.1
          rw [e] at q; exact q
    · rw [Bool.not_eq_true] at hi'
      rw [hi']
      show Q (.bl false) H
      have e : withinD lo hi d = false := by cases d <;> first | rfl | cases hi'
      rw [e] at q
      exact q
end
end HI

set_option Elab.async false
set_option linter.all false
set_option maxRecDepth 100000
set_option maxHeartbeats 4000000
namespace HI
open PySem L2 PyProof.Rows Hw
section
variable {P : Program} {w : World} {K : PySem.W.Frag} {mg : Str → Option Value} {base : Heap}
theorem ok_chklim {f fW fI c : Addr} {fd fdW fdI : FuncData} {k j : Nat} (hj : j + 1 ≤ k) (F : Fun K "check_limits" "check_limits" sChkL f fd) (B : Blt mg) (bi : mg "isinstance" = none) (bt : mg "tuple" = none) (ba : mg "all" = none) (hL : ∃ t, mg "MOST_LIMITS" = some (.int 200 t)) (hT : ∃ t, mg "MOST_TIES" = some (.int 200 t))
    (T : XCls K fI c) (gC : mg "BadLimits" = some (.ref c)) (GI : FnOk P w K mg base CX0 j fI fdI ["self", "value"] (spIniX K)) (bI : Binds K fdI ["self", "value"] [])
    (GW : FnOk P w K mg base CX0 k fW fdW ["value", "least", "most"] spWithinA) (gW : mg "is_within" = some (.ref fW)) (kW : PySem.W.keepIn K (.ref fW) = true) (bW : Binds K fdW ["value", "least", "most"] []) :
    FnOk P w K mg base (L2N.CX P w) (k + 1) f fd ["value"] (spChkLim c) := by
  refine okN F scChkL (fun vs H Q E h => ?_) (fun cdv A outer s H vs Q E hr h => ?_)
  · obtain ⟨v, a, d, rfl, _⟩ := h
    rfl
  · obtain ⟨v, a, d, rfl, hd, q1, q2⟩ := h
    obtain ⟨t1, gL⟩ := hL
    obtain ⟨t2, gT⟩ := hT
    refine ⟨_, pss_one (ps_if (pt_not (PW.pt (pw_and (pt_val (pe_callB call_isi (by rfl) bi PyProof.Rows.boot_isinstance (pa_cons (pv 0) (pa_cons (pe_bltn (v := .ty "tuple") (by rfl) bt (by decide +kernel) rfl) pa_nil))))
      (pw_and (pt_chain op_le op_le pe_int (pe_callB call_len_seq (by rfl) B.len PySem.boot_len (pa_cons (pv 0) pa_nil)) (pe_glob (v := .int 200) (by rfl) gL ⟨_, rfl⟩))
      (pw_and1 (pt_val (pe_callB (cr_all rfl) (by rfl) ba PyProof.Rows.boot_all (pa_cons (pe_lc (own := [("limit", 1)]) (g := gName 1) (tt := tYes) rfl scChkL.nd (pi_tup (pv 0)) (blkOk_by (N := ["value", "limit"]) (sc := defScope sChkL) (by decide +kernel))
          (fun _ _ _ _ _ => pg_name (i := 1) scChkL.nd rfl (Or.inl rfl)) (fun _ _ _ _ _ => pts_nil) (fun _ _ _ _ _ => pe_call GW hr (by rfl) gW kW bW .nil pass0 (pa_cons (pv 1) (pa_cons pe_int (pa_cons (pe_glob (v := .int 200) (by rfl) gT ⟨_, rfl⟩) pa_nil))))) pa_nil)))))))) (pss_one (ps_heal T GI (hr.mono hj) bI rfl gC (pv 0))) pss_nil), ?_⟩
    have no : limD d = false → tVar 0 [some v, none] H fun v H2 => ∀ d, H2 d = none → E (.ref c) (some d) (upd H2 d (.xd [("value", v)])) := fun e => ⟨v, rfl, fun dd nd => q2 e dd H (Same.refl _) nd⟩
    refine ⟨v, rfl, v, .ty "tuple", .type (tyD d), .type "tuple", isTupD d, rfl, .ty _, hd.tyx, kit_tuple d, isTupD d, rfl, ?_⟩
    cases hT : isTupD d with
    | false => exact no (limD_no hT)
    | true =>
      obtain ⟨ds, rfl⟩ := isTup_ex hT
      obtain ⟨t, xs, rfl, e1, ne, xa⟩ := dx_tup hd
      have hlen := xa.length
      show if true = true then _ else _
      rw [if_pos rfl]
      refine ⟨.ref t, rfl, t, xs, rfl, .inr (sqt_of e1), 1, _, rfl, rfl, _, rfl, ?_⟩
      rw [hlen]
      by_cases h1 : (1 : Int) ≤ (ds.length : Nat)
      · rw [decide_eq_true h1]
        refine ⟨_, _, rfl, rfl, _, rfl, ?_⟩
        by_cases h2 : ((ds.length : Nat) : Int) ≤ 200
        · rw [decide_eq_true h2]
          show if true = true then _ else _
          rw [if_pos rfl]
          refine ⟨.ref t, rfl, t, rfl, ⟨_, sqt_of e1⟩, fun D hD => lc_tup (xs := xs) (fun i H' => Same H H' ∧ H' D = some (.lst (((ds.take i).map (withinD 0 200)).map V.bl))) ⟨same_upd hD, upd_same⟩ (fun i H' _ h => sqt_of (h.1 _ _ e1)) ?_ ?_⟩
          · rintro i x H' hx ⟨sx, eD⟩
            obtain ⟨d', hd', xd⟩ := dx_get xa hx
            refine ⟨rfl, r_yes ?_⟩
            refine ⟨x, rfl, x, a, d', 0, 200, rfl, Dx.keep (.of sx) _ _ xd, _, eD, smallM2 (by rw [List.length_map, List.length_map, List.length_take]; omega), ?_, ?_⟩
            · intro b o e
              rw [upd_ne (ne_of_none e hD)]
              exact sx _ _ e
            · rw [upd_same, take_snoc hd', List.map_append, List.map_append]; rfl
          · rintro H' ⟨sx, eD⟩
            rw [hlen, List.take_length] at eD
            have e := limD_in (ds := ds) (by omega)
            refine ⟨D, _, rfl, sql_of eD, _, rfl, ?_⟩
            rw [← e]
            cases hl : limD (.tuple ds) with
            | true => exact q1 hl H' sx
            | false => exact ⟨.ref t, rfl, fun dd nd => q2 hl dd H' sx nd⟩
        · rw [decide_eq_false h2]
          exact no (limD_out (ds := ds) (by omega))
      · rw [decide_eq_false h1]
        exact ⟨false, rfl, no (limD_out (ds := ds) (by omega))⟩
end
end HI

set_option Elab.async false
set_option linter.all false
set_option maxRecDepth 100000
set_option maxHeartbeats 4000000
namespace HI
open PySem L2 PyProof.Rows Hw
def ordD (d j : Nat) : PyData := .tuple [.int (-(d : Int)), .int (j : Int)]
def tiD (t : Tie) : PyData := .tuple [.int t.1, .int t.2]
theorem dataLt_ti (a b : Tie) : PySem.W.dataLt (tiD a) (tiD b) = (decide (a.1 < b.1) || (decide (a.1 = b.1) && decide (a.2 < b.2))) := by
  unfold tiD
  rw [PySem.W.dataLt_pair (by simp [PySem.W.alike]) (by simp [PySem.W.alike]), PySem.W.dataLt_int, PySem.W.dataLt_int]
  simp only [PyData.eqv]
  by_cases h1 : a.1 = b.1
  · by_cases h2 : a.2 = b.2 <;> simp [h1, h2]
  · simp [h1]
/-- data of pairs of ints, one ahead of the other, stand sorted -/
theorem sorted_pairs {l : List (Addr × Tie)} (h : (l.map (·.2)).Pairwise fun a b => a.1 < b.1 ∨ (a.1 = b.1 ∧ a.2 < b.2)) : (l.map fun x => (V.ref x.1, tiD x.2)).mergeSort (PySem.W.dataLe false (·.2)) = l.map fun x => (V.ref x.1, tiD x.2) := by
  refine List.mergeSort_of_pairwise ?_
  rw [List.pairwise_map] at h ⊢
  refine h.imp fun {x y} hxy => ?_
  rw [PySem.W.dataLe_eq]
  show (!PySem.W.dataLt (tiD y.2) (tiD x.2)) = true
  rw [dataLt_ti]
  rcases hxy with h | ⟨h1, h2⟩
  · have a : ¬ y.2.1 < x.2.1 := by omega
    have b : ¬ y.2.1 = x.2.1 := by omega
    simp [a, b]
  · have a : ¬ y.2.1 < x.2.1 := by omega
    have b : ¬ y.2.2 < x.2.2 := by omega
    simp [a, b]
theorem alike_ti (xs : List Tie) : PySem.W.AllAlike (xs.map tiD) := by
  intro d hd d' hd'
  obtain ⟨a, _, rfl⟩ := List.mem_map.mp hd
  obtain ⟨b, _, rfl⟩ := List.mem_map.mp hd'
  unfold tiD
  simp [PySem.W.alike, PySem.W.alikeAll]
theorem sortable_ti (xs : List Tie) : PySem.W.Sortable (xs.map tiD) := .inl fun d hd => by
  obtain ⟨a, _, rfl⟩ := List.mem_map.mp hd
  exact ⟨.int a.1, [.int a.2], rfl⟩
theorem depth_ti (a : Tie) : (tiD a).depth ≤ 50 := by
  unfold tiD
  simp [PyData.depth, PyData.depthAll]
/-- sorted of a list of refs to ascending pairs: as it stands -/
theorem sort_tied {K : PySem.W.Frag} {H : Hp} {a : Addr} {tp : List Addr} {ts : List Tie} {Q : VK} (e : H a = some (.lst (tp.map V.ref))) (hp : Paired (TieL H) tp ts) (ho : ts.Pairwise fun a b => a.1 < b.1 ∨ (a.1 = b.1 ∧ a.2 < b.2)) (hl : ts.length ≤ 1000)
    (q : ∀ p, H p = none → Q (.ref p) (upd H p (.lst (tp.map V.ref)))) : rSortB K [.ref a] H Q := by
  obtain ⟨l, rfl, rfl, hl3⟩ := zip_of hp
  have b1 : (l.map fun x => (V.ref x.1, tiD x.2)).map (·.1) = (l.map (·.1)).map V.ref := by rw [List.map_map, List.map_map]; rfl
  have b2 : (l.map fun x => (V.ref x.1, tiD x.2)).map (·.2) = (l.map (·.2)).map tiD := by rw [List.map_map, List.map_map]; rfl
  refine ⟨a, l.map fun x => (V.ref x.1, tiD x.2), rfl, by rw [b1]; exact sql_of e, fun b hb => ?_, by rw [b2]; exact alike_ti _, by rw [b2]; exact sortable_ti _, ?_, fun p np => ?_⟩
  · obtain ⟨x, hx, rfl⟩ := List.mem_map.mp hb
    exact ⟨.tup (sqt_of (hl3 x hx)) (.cons (.int _) (.cons (.int _) .nil)), depth_ti _⟩
  · rw [List.length_map] at hl ⊢
    exact Nat.le_of_lt (smallM2 (by omega))
  · rw [sorted_pairs ho, b1]
    exact q p np
def ordL (d n : Nat) : List Tie := (List.range n).map fun j => (-(d : Int), ((j : Nat) : Int))
theorem ord_asc (d n : Nat) : (ordL d n).Pairwise fun a b => a.1 < b.1 ∨ (a.1 = b.1 ∧ a.2 < b.2) := by
  unfold ordL
  rw [List.pairwise_map]
  exact List.pairwise_lt_range.imp fun {a b} h => .inr ⟨rfl, by show ((a : Nat) : Int) < ((b : Nat) : Int); omega⟩
theorem ties_asc (d n : Nat) : (tiesL d n).Pairwise fun a b => a.1 < b.1 ∨ (a.1 = b.1 ∧ a.2 < b.2) := by
  unfold tiesL
  rw [List.pairwise_map]
  refine List.pairwise_lt_range.imp fun {a b} h => ?_
  have hm := par_mono (d := d) (show a ≤ b by omega)
  by_cases e : par d a = par d b
  · exact .inr ⟨by show ((par d a : Nat) : Int) = ((par d b : Nat) : Int); omega, by show ((a + 1 : Nat) : Int) < ((b + 1 : Nat) : Int); omega⟩
  · exact .inl (by show ((par d a : Nat) : Int) < ((par d b : Nat) : Int); omega)
def roomL (d i : Nat) : List Int := List.replicate d 0 ++ (List.range i).flatMap fun j => List.replicate (d - 1) ((j + 1 : Nat) : Int)
theorem room_succ (d i : Nat) : roomL d (i + 1) = roomL d i ++ List.replicate (d - 1) ((i + 1 : Nat) : Int) := by
  unfold roomL
  rw [List.range_succ, List.flatMap_append, List.append_assoc]
  simp
theorem room_len (d : Nat) : ∀ i, (roomL d i).length = d + i * (d - 1)
  | 0 => by unfold roomL; simp
  | i + 1 => by rw [room_succ, List.length_append, room_len d i, List.length_replicate, Nat.add_mul]; omega
theorem room2 : ((List.range 60).all fun i => decide ((roomL 2 i)[i]? = some ((par 2 i : Nat) : Int))) = true := by decide +kernel
theorem room3 : ((List.range 60).all fun i => decide ((roomL 3 i)[i]? = some ((par 3 i : Nat) : Int))) = true := by decide +kernel
theorem room4 : ((List.range 60).all fun i => decide ((roomL 4 i)[i]? = some ((par 4 i : Nat) : Int))) = true := by decide +kernel
theorem room5 : ((List.range 60).all fun i => decide ((roomL 5 i)[i]? = some ((par 5 i : Nat) : Int))) = true := by decide +kernel
theorem room_at {d i : Nat} (g1 : 2 ≤ d) (g2 : d ≤ 5) (hi : i < 60) : (roomL d i)[i]? = some ((par d i : Nat) : Int) := by
  have hm : i ∈ List.range 60 := List.mem_range.mpr hi
  have h : d = 2 ∨ d = 3 ∨ d = 4 ∨ d = 5 := by omega
  rcases h with rfl | rfl | rfl | rfl
  · exact of_decide_eq_true (List.all_eq_true.mp room2 _ hm)
  · exact of_decide_eq_true (List.all_eq_true.mp room3 _ hm)
  · exact of_decide_eq_true (List.all_eq_true.mp room4 _ hm)
  · exact of_decide_eq_true (List.all_eq_true.mp room5 _ hm)
theorem flat_rep {α : Type} (x : α) : ∀ n : Nat, (List.replicate n [x]).flatten = List.replicate n x
  | 0 => rfl
  | n + 1 => by rw [List.replicate_succ, List.flatten_cons, flat_rep x n, List.replicate_succ]; rfl
def othI (n : Nat) : List Int := (List.range (n - 1)).map fun i => ((i + 1 : Nat) : Int)
theorem ns_cons {n : Nat} (h : 0 < n) : nsI n = 0 :: othI n := by
  obtain ⟨m, rfl⟩ : ∃ m, n = m + 1 := ⟨n - 1, by omega⟩
  unfold nsI othI
  rw [List.range_succ_eq_map, List.map_cons, List.map_map]
  rfl
theorem oth_len (n : Nat) : (othI n).length = n - 1 := by unfold othI; rw [List.length_map, List.length_range]
theorem oth_at {n j : Nat} {x : V} (h : ((othI n).map V.int)[j]? = some x) : j < n - 1 ∧ x = .int ((j + 1 : Nat) : Int) := by
  have hj := (List.getElem?_eq_some_iff.mp h).1
  rw [List.length_map, oth_len] at hj
  refine ⟨hj, ?_⟩
  unfold othI at h
  rw [List.map_map, List.getElem?_map, List.getElem?_range hj] at h
  exact (Option.some.inj h).symm
theorem ties_at {d n j : Nat} (h : j < n - 1) : (tiesL d n)[j]? = some (((par d j : Nat) : Int), ((j + 1 : Nat) : Int)) := by
  unfold tiesL
  rw [List.getElem?_map, List.getElem?_range h]; rfl
theorem ord_at {d n j : Nat} {t : Tie} (h : (ordL d n)[j]? = some t) : j < n ∧ t = (-(d : Int), ((j : Nat) : Int)) := by
  have hj := (List.getElem?_eq_some_iff.mp h).1
  unfold ordL at hj
  rw [List.length_map, List.length_range] at hj
  refine ⟨hj, ?_⟩
  unfold ordL at h
  rw [List.getElem?_map, List.getElem?_range hj] at h
  exact (Option.some.inj h).symm
theorem ns_at {n j : Nat} (h : j < n) : (nsI n)[j]? = some ((j : Nat) : Int) := by
  unfold nsI
  rw [List.getElem?_map, List.getElem?_range h]; rfl
theorem ord_len (d n : Nat) : (ordL d n).length = n := by unfold ordL; rw [List.length_map, List.length_range]
theorem ties_len (d n : Nat) : (tiesL d n).length = n - 1 := by unfold tiesL; rw [List.length_map, List.length_range]
def spLow : Sp := fun vs H Q _ => ∃ (a : Addr) (d n : Nat), vs = [.ref a] ∧ H a = some (.tup (limsV d n)) ∧ GoodL d n ∧ ∀ (t : Addr) (qs : List Addr) H', Same H H' → H' t = some (.tup (qs.map V.ref)) → Paired (TieL H') qs (tiesL d n) → Q (.ref t) H'
theorem lims_get {d n i : Nat} (h : i < n) : (limsV d n)[i]? = some (.int (d : Int)) := by
  unfold limsV
  rw [List.getElem?_replicate, if_pos h]
theorem r_sortB {K : PySem.W.Frag} {σ : L2.St} {H1 : Hp} {D : Addr} {Q' : VK} (h : rSortB K [V.ref D] H1 Q') : tNil σ H1 fun xs H2 => (fun vs H1 => rSortB K vs H1 Q') (V.ref D :: xs) H2 := h
section
variable {P : Program} {w : World} {K : PySem.W.Frag} {mg : Str → Option Value} {base : Heap}
abbrev nLow : List Str := ["limits", "order", "first", "others", "room", "ties", "at", "place", "limit", "pair"]
end
end HI

set_option Elab.async false
set_option linter.all false
set_option maxRecDepth 100000
set_option maxHeartbeats 4000000
namespace HI
open PySem L2 PyProof.Rows Hw
abbrev sIsTieOf : Stmt := topS 15
abbrev sAsc : Stmt := topS 2
/-! ties of places below n, as data -/
def tieD (n : Nat) : PyData → Bool
  | .tuple [.int x, .int y] => decide (0 ≤ x ∧ x ≤ (n : Int) - 1) && decide (0 ≤ y ∧ y ≤ (n : Int) - 1) && decide (x < y)
  | _ => false
def ltT (t u : Tie) : Bool := decide (t.1 < u.1) || (decide (t.1 = u.1) && decide (t.2 < u.2))
def ascB (ts : List Tie) : Bool := (ts.zip (ts.drop 1)).all fun p => ltT p.1 p.2
theorem ties_ex {a : Addr} {H : Hp} {n : Nat} : ∀ {xs : List V} {ds : List PyData}, DxAll a H xs ds → ds.all (tieD n) = true → ∃ (qs : List Addr) (ts : List Tie), xs = qs.map V.ref ∧ ds = ts.map tiD ∧ Paired (TieL H) qs ts ∧ ∀ t ∈ ts, 0 ≤ t.1 ∧ t.1 < t.2 ∧ t.2 ≤ (n : Int) - 1
  | _, _, .nil, _ => ⟨[], [], rfl, rfl, .nil, fun _ h => nomatch h⟩
  | _, _, .cons (d := d) x t, h => by
    rw [List.all_cons, Bool.and_eq_true] at h
    obtain ⟨qs, ts, e1, e2, e3, e4⟩ := ties_ex t h.2
    have hd := h.1
    unfold tieD at hd
    split at hd
    · rename_i u v
      simp only [Bool.and_eq_true, decide_eq_true_eq] at hd
      obtain ⟨q, ys, rfl, eq, _, xa⟩ := dx_tup x
      cases xa with
      | cons x1 xa =>
        cases xa with
        | cons x2 xa =>
          cases xa
          obtain rfl := x1.int
          obtain rfl := x2.int
          refine ⟨q :: qs, (u, v) :: ts, by rw [e1]; rfl, by rw [e2]; rfl, .cons eq e3, fun t ht => ?_⟩
          rcases List.mem_cons.mp ht with rfl | ht
          · exact ⟨hd.1.1.1, hd.2, hd.1.2.2⟩
          · exact e4 t ht
    · cases hd
theorem tieD_len {n : Nat} {ds : List PyData} (h : ds.length ≠ 2) : tieD n (.tuple ds) = false := by
  unfold tieD
  split
  · rename_i e
    injection e with e
    rw [e] at h
    exact absurd rfl h
  · rfl
theorem tieD_two {n : Nat} {d e : PyData} : tieD n (.tuple [d, e]) = (withinD 0 ((n : Int) - 1) d && withinD 0 ((n : Int) - 1) e && (match d, e with | .int x, .int y => decide (x < y) | _, _ => false)) := by
  cases d <;> cases e <;> first | rfl | simp [tieD, withinD]
def spIsTieOf : Sp := fun vs H Q _ => ∃ (v : V) (a : Addr) (d : PyData) (n : Nat), vs = [v, .int n] ∧ Dx a H v d ∧ ∀ H', Same H H' → Q (.bl (tieD n d)) H'
/-- one tie ahead of another one -/
def rLtT (K : PySem.W.Frag) : R2 := fun x y H Q => ∃ (a b : Addr) (t u : Tie), x = .ref a ∧ y = .ref b ∧ SqT K H a ([t.1, t.2].map V.int) ∧ SqT K H b ([u.1, u.2].map V.int) ∧ Q (.bl (ltT t u)) H
theorem int_item {us : List Value} {xs : List Int} (r : Vals (xs.map V.int) us) (j : Nat) (h : j < us.toArray.size) : ∃ t, us.toArray[j] = .int (xs.getD j 0) t := by
  have hl := r.length
  rw [List.length_map] at hl
  have hj : j < xs.length := by rw [List.size_toArray] at h; omega
  have e : (xs.map V.int)[j]? = some (V.int xs[j]) := by rw [List.getElem?_map, List.getElem?_eq_getElem hj]; rfl
  obtain ⟨u, h1, h2⟩ := r.get e
  obtain ⟨t, rfl⟩ := h2
  refine ⟨t, ?_⟩
  rw [List.size_toArray] at h
  have : us[j]? = some us[j] := List.getElem?_eq_getElem h
  rw [this] at h1
  have e2 := Option.some.inj h1
  rw [List.getElem_toArray, e2]
  simp [List.getD, List.getElem?_eq_getElem hj]
theorem lex_ltT (t u : Tie) : Ob.lexAt (fun j => [t.1, t.2].getD j 0 == [u.1, u.2].getD j 0) (fun j => decide ([t.1, t.2].getD j 0 < [u.1, u.2].getD j 0)) (decide ([t.1, t.2].length < [u.1, u.2].length)) 0 (min [t.1, t.2].length [u.1, u.2].length) = ltT t u := by
  show (if (t.1 == u.1) = true then (if (t.2 == u.2) = true then decide (2 < 2) else decide (t.2 < u.2)) else decide (t.1 < u.1)) = _
  unfold ltT
  by_cases h1 : t.1 = u.1
  · by_cases h2 : t.2 = u.2
    · simp [h1, h2]
    · simp [h1, h2]
  · simp [h1]
theorem op_ltT {X : Cx} (hu : X.A.units < cLine) : OpR X (compareOp .Lt) (rLtT X.K) := by
  intro pins s σ H x y v u Q I rx ry h
  obtain ⟨a, b, t, w, rfl, rfl, ha, hb, q⟩ := h
  cases rx
  cases ry
  obtain ⟨its, r1, p1, _⟩ := I.tuple ha
  obtain ⟨its2, r2, p2, _⟩ := I.tuple hb
  have e1 : its.toArray.size = [t.1, t.2].length := by rw [List.size_toArray, ← r1.length, List.length_map]
  have e2 : its2.toArray.size = [w.1, w.2].length := by rw [List.size_toArray, ← r2.length, List.length_map]
  have R := Ob.RcOp.tuples_lt (A := X.A) (s := s) (e := fun j => [t.1, t.2].getD j 0 == [w.1, w.2].getD j 0) (r := fun j => decide ([t.1, t.2].getD j 0 < [w.1, w.2].getD j 0)) p1 p2 hu (fun j h1 h2 => by
    obtain ⟨t, et⟩ := int_item r1 j h1
    obtain ⟨t', et'⟩ := int_item r2 j h2
    rw [et, et']
    exact SeqAt.EqAt.int_int _ _ _ _) (fun j h1 h2 _ => by
    obtain ⟨t, et⟩ := int_item r1 j h1
    obtain ⟨t', et'⟩ := int_item r2 j h2
    rw [et, et']
    exact Ob.RcOp.lt_int _ _ _ _)
  rw [e1, e2, lex_ltT] at R
  have z : wpAny (model X.prog X.w) X.A (compareOp .Lt (.ref a) (.ref b)) (EP X pins σ Q) X.xe s := R X.prog X.w X.xe (EP X pins σ Q) ⟨.bl _, H, I, rfl, q⟩
  exact z
def spAscT : Sp := fun vs H Q _ => ∃ (p : Addr) (qs : List Addr) (ts : List Tie), vs = [.ref p] ∧ H p = some (.tup (qs.map V.ref)) ∧ Paired (TieL H) qs ts ∧ ts.length ≤ 1000 ∧ ∀ H', Same H H' → Q (.bl (ascB ts)) H'
theorem zip_at {ts : List Tie} {i : Nat} {x y : Tie} (h1 : ts[i]? = some x) (h2 : ts[1 + i]? = some y) : (ts.zip (ts.drop 1))[i]? = some (x, y) := by
  rw [List.getElem?_zip_eq_some]
  exact ⟨h1, by rw [List.getElem?_drop]; exact h2⟩
section
variable {P : Program} {w : World} {K : PySem.W.Frag} {mg : Str → Option Value} {base : Heap}
theorem scTieOf : FnScope ["value", "many", "place"] ["value", "many"] (defScope sIsTieOf) := ⟨rfl, rfl, rfl, by decide +kernel, rfl, by decide +kernel, by decide +kernel⟩
theorem ok_istieof {f fW : Addr} {fd fdW : FuncData} {k : Nat} (F : Fun K "is_tie_of" "is_tie_of" sIsTieOf f fd) (B : Blt mg) (bi : mg "isinstance" = none) (bt : mg "tuple" = none) (ba : mg "all" = none)
    (GW : FnOk P w K mg base CX0 k fW fdW ["value", "least", "most"] spWithinA) (gW : mg "is_within" = some (.ref fW)) (kW : PySem.W.keepIn K (.ref fW) = true) (bW : Binds K fdW ["value", "least", "most"] []) :
    FnOk P w K mg base CX0 (k + 1) f fd ["value", "many"] spIsTieOf := by
  refine F.ok scTieOf (fun vs H Q E h => ?_) (fun cdv A outer s H vs Q E hr h => ?_)
  · obtain ⟨v, a, d, n, rfl, _⟩ := h
    rfl
  · obtain ⟨v, a, d, n, rfl, hd, q⟩ := h
    refine ⟨_, pss_one (ps_ret (pe_and (pe_callB call_isi (by rfl) bi PyProof.Rows.boot_isinstance (pa_cons (pv 0) (pa_cons (pe_bltn (v := .ty "tuple") (by rfl) bt (by decide +kernel) rfl) pa_nil)))
      (pe_and (pe_cmpR op_eq (pe_callB call_len_seq (by rfl) B.len PySem.boot_len (pa_cons (pv 0) pa_nil)) pe_int (nomark _))
      (pe_and (pe_callB (cr_all rfl) (by rfl) ba PyProof.Rows.boot_all (pa_cons (pe_lc (own := [("place", 2)]) (g := gName 2) (tt := tYes) rfl scTieOf.nd (pi_tup (pv 0)) (blkOk_by (N := ["value", "many", "place"]) (sc := defScope sIsTieOf) (by decide +kernel))
          (fun _ _ _ _ _ => pg_name (i := 2) scTieOf.nd rfl (Or.inl rfl)) (fun _ _ _ _ _ => pts_nil) (fun _ _ _ _ _ => pe_call GW hr (by rfl) gW kW bW .nil pass0 (pa_cons (pv 2) (pa_cons pe_int (pa_cons (pe_op op_sub (pv 1) pe_int) pa_nil))))) pa_nil))
      (pe_one (pe_cmpR op_lt (pe_ix ix_tup (pv 0) pe_int (fun _ _ => rfl)) (pe_ix ix_tup (pv 0) pe_int (fun _ _ => rfl)) (nomark _))))))), ?_⟩
    refine ⟨v, rfl, v, .ty "tuple", .type (tyD d), .type "tuple", isTupD d, rfl, .ty _, hd.tyx, kit_tuple d, isTupD d, rfl, ?_⟩
    cases hT : isTupD d with
    | false =>
      have e : tieD n d = false := by cases d <;> first | rfl | cases hT
      rw [e] at q
      exact q H (Same.refl _)
    | true =>
      obtain ⟨ds, rfl⟩ := isTup_ex hT
      obtain ⟨t, xs, rfl, e1, ne, xa⟩ := dx_tup hd
      have hlen := xa.length
      show if true = true then _ else _
      rw [if_pos rfl]
      refine ⟨.ref t, rfl, t, xs, rfl, .inr (sqt_of e1), rfl, _, rfl, ?_⟩
      rw [hlen]
      by_cases h2 : ds.length = 2
      · rw [decide_eq_true (show V.int ((ds.length : Nat) : Int) = V.int 2 by rw [h2]; rfl)]
        show if true = true then _ else _
        rw [if_pos rfl]
        refine ⟨.ref t, rfl, t, rfl, ⟨_, sqt_of e1⟩, fun D hD => lc_tup (xs := xs) (fun i H' => Same H H' ∧ H' D = some (.lst (((ds.take i).map (withinD 0 ((n : Int) - 1))).map V.bl))) ⟨same_upd hD, upd_same⟩ (fun i H' _ h => sqt_of (h.1 _ _ e1)) ?_ ?_⟩
        · rintro i x H' hx ⟨sx, eD⟩
          obtain ⟨d', hd', xd⟩ := dx_get xa hx
          refine ⟨rfl, r_yes ?_⟩
          refine ⟨x, rfl, .int n, rfl, _, _, rfl, rfl, x, a, d', 0, (n : Int) - 1, rfl, Dx.keep (.of sx) _ _ xd, _, eD, smallM2 (by rw [List.length_map, List.length_map, List.length_take]; omega), ?_, ?_⟩
          · intro b o e
            rw [upd_ne (ne_of_none e hD)]
            exact sx _ _ e
          · rw [upd_same, take_snoc hd', List.map_append, List.map_append]; rfl
        · rintro H' ⟨sx, eD⟩
          rw [hlen, List.take_length] at eD
          refine ⟨D, _, rfl, sql_of eD, _, rfl, ?_⟩
          match ds, h2 with
          | [d1, d2], _ =>
            have q' := q H' sx
            rw [tieD_two] at q'
            show if (withinD 0 ((n : Int) - 1) d1 && (withinD 0 ((n : Int) - 1) d2 && true)) = true then _ else _
            rw [Bool.and_true]
            cases h3 : (withinD 0 ((n : Int) - 1) d1 && withinD 0 ((n : Int) - 1) d2) with
            | false =>
              rw [h3] at q'
              show if false = true then _ else _
              rw [if_neg Bool.false_ne_true]
              exact q'
            | true =>
              rw [h3] at q'
              rw [Bool.and_eq_true] at h3
              obtain ⟨x, rfl⟩ : ∃ g, d1 = .int g := by
                cases d1 with
                | int g => exact ⟨g, rfl⟩
                | _ => cases h3.1
              obtain ⟨y, rfl⟩ : ∃ g, d2 = .int g := by
                cases d2 with
                | int g => exact ⟨g, rfl⟩
                | _ => cases h3.2
              cases xa with
              | cons x1 xa =>
                cases xa with
                | cons x2 xa =>
                  cases xa
                  obtain rfl := x1.int
                  obtain rfl := x2.int
                  show if true = true then _ else _
                  rw [if_pos rfl]
                  refine ⟨.ref t, rfl, t, _, 0, .int x, rfl, rfl, sqt_of (sx _ _ e1), atI_nat (j := 0) rfl, .ref t, rfl, t, _, 1, .int y, rfl, rfl, sqt_of (sx _ _ e1), atI_nat (j := 1) rfl, _, _, rfl, rfl, ?_⟩
                  exact q'
      · rw [decide_eq_false (show ¬ V.int ((ds.length : Nat) : Int) = V.int 2 from fun e => h2 (by injection e with e; omega))]
        rw [tieD_len h2] at q
        exact q H (Same.refl _)
end
end HI

set_option Elab.async false
set_option linter.all false
set_option maxRecDepth 100000
set_option maxHeartbeats 4000000
namespace HI
open PySem L2 PyProof.Rows Hw
theorem cut1 {xs : List V} : cutV xs (some 1) none = xs.drop 1 := by
  unfold cutV
  rw [show HT.sIx xs.length 0 (some 1) = min 1 xs.length from HT.sIx_nat _ 0 1, HT.sIx_none]
  have e : xs.drop (min 1 xs.length) = xs.drop 1 := by
    by_cases h : 1 ≤ xs.length
    · rw [Nat.min_eq_left h]
    · rw [Nat.min_eq_right (by omega), List.drop_of_length_le (Nat.le_refl _), List.drop_of_length_le (by omega)]
  rw [e]
  refine List.take_of_length_le ?_
  rw [List.length_drop]; omega
theorem sqT_same {K : PySem.W.Frag} {H H' : Hp} {p : Addr} {xs : List V} (h : SqT K H p xs) (s : Same H H') : SqT K H' p xs := by
  rcases h with (h | ⟨o, h⟩) | h
  · exact .inl (.inl (s _ _ h))
  · exact .inl (.inr ⟨o, s _ _ h⟩)
  · exact .inr h
section
variable {P : Program} {w : World} {K : PySem.W.Frag} {mg : Str → Option Value} {base : Heap}
theorem scAsc : FnScope ["values", "one", "other"] ["values"] (defScope sAsc) := ⟨rfl, rfl, rfl, by decide +kernel, rfl, by decide +kernel, by decide +kernel⟩
theorem ok_ascT {f : Addr} {fd : FuncData} {k : Nat} (F : Fun K "ascends" "ascends" sAsc f fd) (ba : mg "all" = none) (bz : mg "zip" = none) : FnOk P w K mg base CX0 (k + 1) f fd ["values"] spAscT := by
  refine F.ok scAsc (fun vs H Q E h => ?_) (fun cdv A outer s H vs Q E hr h => ?_)
  · obtain ⟨p, qs, ts, rfl, _⟩ := h
    rfl
  · obtain ⟨p, qs, ts, rfl, e1, hq, hl, q⟩ := h
    have hu0 := hr.units0
    refine ⟨_, pss_one (ps_ret (pe_callB (cr_all rfl) (by rfl) ba PyProof.Rows.boot_all (pa_cons (pe_lc (own := [("one", 1), ("other", 2)]) (g := gTup _ 2 (gCons (gName 1) (gCons (gName 2) gNil))) (tt := tYes) (te := tOp (rLtT K) (tVar 1) (tVar 2)) rfl scAsc.nd
        (RZ.pi_zipA (by rfl) bz (pa_cons (pv 0) (pa_cons (pe_slice sl_tupA (pv 0) (po_some pe_int) po_none) pa_nil))) (blkOk_by (N := ["values", "one", "other"]) (sc := defScope sAsc) (by decide +kernel))
        (fun _ _ _ _ _ => pg_tup rfl (pgs_cons (pg_name (i := 1) scAsc.nd rfl (Or.inl rfl)) (pgs_cons (pg_name (i := 2) scAsc.nd rfl (Or.inl rfl)) pgs_nil))) (fun _ _ _ _ _ => pts_nil) (fun _ _ _ _ _ => pe_cmpR (op_ltT hu0) (pv 1) (pv 2) (nomark _))) pa_nil))), ?_⟩
    have hlq : qs.length = ts.length := Paired.length hq
    have walk_len : (((ts.zip (ts.drop 1)).take (min (qs.map V.ref).length ((qs.map V.ref).drop 1).length)).map fun p => ltT p.1 p.2) = (ts.zip (ts.drop 1)).map fun p => ltT p.1 p.2 := by
      rw [List.take_of_length_le]
      rw [List.length_zip, List.length_drop, List.length_drop, List.length_map, Paired.length hq]
      exact Nat.le_refl _
    have hp : SqT K H p (qs.map V.ref) := sqt_of e1
    refine ⟨.ref p, rfl, .ref p, rfl, 1, rfl, p, qs.map V.ref, rfl, hp, fun hw => ?_, fun hw b nb => ?_⟩
    · obtain ⟨H1, eH1⟩ : ∃ H1, H1 = H := ⟨H, rfl⟩
      have s1 : Same H H1 := by rw [eH1]; exact Same.refl H
      have hb : SqT K H1 p ((qs.map V.ref).drop 1) := by
        have e0 : (qs.map V.ref).length = 0 := by
          have := hw.1
          rw [show HT.sIx (qs.map V.ref).length 0 (some 1) = min 1 (qs.map V.ref).length from HT.sIx_nat _ 0 1] at this
          omega
        rw [List.length_eq_zero_iff.mp e0] at hp ⊢
        rw [eH1]; exact hp
      rw [← eH1]
      refine ⟨p, _, qs.map V.ref, (qs.map V.ref).drop 1, rfl, .inr ⟨sqT_same hp s1, hb, fun D hD => lc_it (walk_zipT rfl) (fun i H' => Same H H' ∧ Same H1 H' ∧ H' D = some (.lst ((((ts.zip (ts.drop 1)).take i).map fun p => ltT p.1 p.2).map V.bl))) ⟨s1.trans (same_upd hD), same_upd hD, upd_same⟩ (fun i H' _ h => ⟨sqT_same hp h.1, sqT_same hb h.2.1⟩) ?_ ?_⟩⟩
      · rintro i x H' H'' hi ⟨sx, sx1, eD⟩ ⟨T, x1, x2, rfl, nT, rfl, g1, g2⟩
        obtain ⟨q1, h1, rfl⟩ := Hw.map_get g1
        have g2 : ((qs.map V.ref).drop 1)[i]? = some x2 := g2
        rw [List.getElem?_drop] at g2
        obtain ⟨q2, h2, rfl⟩ := Hw.map_get g2
        obtain ⟨t1, k1, f1⟩ := Hw.paired_get hq h1
        obtain ⟨t2, k2, f2⟩ := Hw.paired_get hq h2
        refine ⟨T, [.ref q1, .ref q2], rfl, sqt_of upd_same, rfl, _, [.ref q2], rfl, _, [], rfl, rfl, rfl, r_yes ?_⟩
        have hz := zip_at k1 k2
        refine ⟨.ref q1, rfl, .ref q2, rfl, q1, q2, t1, t2, rfl, rfl, sqt_of ((same_upd nT) _ _ (sx _ _ f1)), sqt_of ((same_upd nT) _ _ (sx _ _ f2)), _, (same_upd nT) _ _ eD, smallM2 (by rw [List.length_map, List.length_map, List.length_take, List.length_zip]; omega), ?_, ?_, ?_⟩
        · intro b o e
          rw [upd_ne (ne_of_none (s1 _ _ e) hD)]
          exact (same_upd nT) _ _ (sx _ _ e)
        · intro b o e
          rw [upd_ne (ne_of_none e hD)]
          exact (same_upd nT) _ _ (sx1 _ _ e)
        · rw [upd_same, Hw.take_snoc hz, List.map_append, List.map_append]; rfl
      · rintro H' ⟨sx, sx1, eD⟩
        rw [walk_len] at eD
        refine ⟨D, _, rfl, sql_of eD, ?_⟩
        have e : ((ts.zip (ts.drop 1)).map fun p => ltT p.1 p.2).all id = ascB ts := by unfold ascB; rw [List.all_map]; rfl
        rw [e]
        exact q H' sx
    · have s1 : Same H (upd H b (.tup (cutV (qs.map V.ref) (some 1) none))) := same_upd nb
      have hb : SqT K (upd H b (.tup (cutV (qs.map V.ref) (some 1) none))) b ((qs.map V.ref).drop 1) := by
        rw [cut1]
        exact sqt_of upd_same
      generalize (upd H b (.tup (cutV (qs.map V.ref) (some 1) none))) = H1 at s1 hb ⊢
      refine ⟨p, _, qs.map V.ref, (qs.map V.ref).drop 1, rfl, .inr ⟨sqT_same hp s1, hb, fun D hD => lc_it (walk_zipT rfl) (fun i H' => Same H H' ∧ Same H1 H' ∧ H' D = some (.lst ((((ts.zip (ts.drop 1)).take i).map fun p => ltT p.1 p.2).map V.bl))) ⟨s1.trans (same_upd hD), same_upd hD, upd_same⟩ (fun i H' _ h => ⟨sqT_same hp h.1, sqT_same hb h.2.1⟩) ?_ ?_⟩⟩
      · rintro i x H' H'' hi ⟨sx, sx1, eD⟩ ⟨T, x1, x2, rfl, nT, rfl, g1, g2⟩
        obtain ⟨q1, h1, rfl⟩ := Hw.map_get g1
        have g2 : ((qs.map V.ref).drop 1)[i]? = some x2 := g2
        rw [List.getElem?_drop] at g2
        obtain ⟨q2, h2, rfl⟩ := Hw.map_get g2
        obtain ⟨t1, k1, f1⟩ := Hw.paired_get hq h1
        obtain ⟨t2, k2, f2⟩ := Hw.paired_get hq h2
        refine ⟨T, [.ref q1, .ref q2], rfl, sqt_of upd_same, rfl, _, [.ref q2], rfl, _, [], rfl, rfl, rfl, r_yes ?_⟩
        have hz := zip_at k1 k2
        refine ⟨.ref q1, rfl, .ref q2, rfl, q1, q2, t1, t2, rfl, rfl, sqt_of ((same_upd nT) _ _ (sx _ _ f1)), sqt_of ((same_upd nT) _ _ (sx _ _ f2)), _, (same_upd nT) _ _ eD, smallM2 (by rw [List.length_map, List.length_map, List.length_take, List.length_zip]; omega), ?_, ?_, ?_⟩
        · intro b o e
          rw [upd_ne (ne_of_none (s1 _ _ e) hD)]
          exact (same_upd nT) _ _ (sx _ _ e)
        · intro b o e
          rw [upd_ne (ne_of_none e hD)]
          exact (same_upd nT) _ _ (sx1 _ _ e)
        · rw [upd_same, Hw.take_snoc hz, List.map_append, List.map_append]; rfl
      · rintro H' ⟨sx, sx1, eD⟩
        rw [walk_len] at eD
        refine ⟨D, _, rfl, sql_of eD, ?_⟩
        have e : ((ts.zip (ts.drop 1)).map fun p => ltT p.1 p.2).all id = ascB ts := by unfold ascB; rw [List.all_map]; rfl
        rw [e]
        exact q H' sx
end
end HI

set_option Elab.async false
set_option linter.all false
set_option maxRecDepth 100000
set_option maxHeartbeats 4000000
namespace HI
open PySem L2 PyProof.Rows Hw
abbrev sTreeFor : Stmt := topS 14
/-! levels end behind twice as many laps as places -/
theorem lev_end {ns : List Int} {nb : Int → List Int} (hnb : ∀ n ∈ ns, ∀ o ∈ nb n, o ∈ ns) {p : Int} (hp : p ∈ ns) {N : Nat} (hN : ns.length ≤ N) : (lev nb p (2 * N)).2 = [] := by
  have key : ∀ i, (lev nb p i).2 = [] ∨ muF ns (lev nb p i) + i ≤ 2 * ns.length - 1 := by
    intro i
    induction i with
    | zero =>
      right
      show 2 * (ns.length - 1) + 1 + 0 ≤ _
      have := List.length_pos_of_mem hp
      omega
    | succ i ih =>
      rcases ih with h | h
      · left
        have e : lev nb p i = ((lev nb p i).1, []) := Prod.ext rfl h
        have := lev_stay e 1
        rw [this]
      · by_cases hs : (lev nb p i).2 = []
        · left
          have e : lev nb p i = ((lev nb p i).1, []) := Prod.ext rfl hs
          have := lev_stay e 1
          rw [this]
        · right
          obtain ⟨n0, f⟩ := lev_ok hnb hp i
          have := mu_lvl hnb f hs
          show muF ns (lvl nb (lev nb p i)) + (i + 1) ≤ _
          omega
  rcases key (2 * N) with h | h
  · exact h
  · have := List.length_pos_of_mem hp
    omega
def reachN (ts : List Tie) (n : Nat) (p : Int) : Far := (lev (nbr ts) p (2 * n)).1
theorem reach_bfs {n : Nat} {ns : List Int} {ts : List Tie} (hnb : ∀ n ∈ ns, ∀ o ∈ nbr ts n, o ∈ ns) {p : Int} (hp : p ∈ ns) (hl : ns.length ≤ n) : Bfs (nbr ts) p (reachN ts n p) :=
  ⟨2 * n, Prod.ext rfl (lev_end hnb hp hl)⟩
def tieOf : PyData → Option Tie
  | .tuple [.int x, .int y] => some (x, y)
  | _ => none
def tiesOf (ds : List PyData) : List Tie := ds.filterMap tieOf
theorem tiesOf_ti (ts : List Tie) : tiesOf (ts.map tiD) = ts := by
  unfold tiesOf
  rw [List.filterMap_map]
  have : (tieOf ∘ tiD) = some := by funext t; rfl
  rw [this, List.filterMap_some]
def degB (ls : List Int) (ts : List Tie) : Bool := (List.range ls.length).all fun i => decide (((nbr ts (i : Nat)).length : Int) ≤ ls.getD i 0)
def treeT (ls : List Int) (ts : List Tie) : Bool := decide ((reachN ts ls.length 0).length = ls.length) && degB ls ts
def isTreeD (ls : List Int) : PyData → Bool
  | .tuple ds => decide (ds.length + 1 = ls.length) && (ds.all (tieD ls.length) && (ascB (tiesOf ds) && treeT ls (tiesOf ds)))
  | _ => false
theorem isTreeD_tup (ls : List Int) (ds : List PyData) : isTreeD ls (.tuple ds) = (decide (ds.length + 1 = ls.length) && (ds.all (tieD ls.length) && (ascB (tiesOf ds) && treeT ls (tiesOf ds)))) := rfl
theorem isTreeD_no {ls : List Int} {d : PyData} (h : isTupD d = false) : isTreeD ls d = false := by cases d <;> first | rfl | cases h
def intOf : PyData → Option Int
  | .int i => some i
  | _ => none
def limsOf : PyData → List Int
  | .tuple ds => ds.filterMap intOf
  | _ => []
theorem limsOf_ints (ls : List Int) : limsOf (.tuple (ls.map PyData.int)) = ls := by
  show (ls.map PyData.int).filterMap intOf = ls
  rw [List.filterMap_map]
  have : (intOf ∘ PyData.int) = some := by funext t; rfl
  rw [this, List.filterMap_some]
theorem fine_of {n : Nat} {ts : List Tie} (hn : n ≤ 200) (hl : ts.length ≤ 1000) (h : ∀ t ∈ ts, 0 ≤ t.1 ∧ t.1 < t.2 ∧ t.2 ≤ (n : Int) - 1) : FineW (nsI n) ts := by
  have mem : ∀ x : Int, 0 ≤ x → x ≤ (n : Int) - 1 → x ∈ nsI n := fun x h0 h1 => by
    have := mem_ns (n := n) (i := x.toNat) (by omega)
    rwa [Int.toNat_of_nonneg h0] at this
  refine ⟨ns_nd n, by rw [ns_len]; exact hn, fun t ht => ?_, by omega⟩
  obtain ⟨a, b, c⟩ := h t ht
  exact ⟨mem _ a (by omega), mem _ (by omega) c, b⟩
theorem fine_nb {ns : List Int} {ts : List Tie} (f : FineW ns ts) : ∀ m ∈ ns, ∀ o ∈ nbr ts m, o ∈ ns := fun m _ o ho => nbr_mem f.tie ho
theorem rg_ns (n : Nat) : rgV 0 (n : Int) = (nsI n).map V.int := by
  unfold rgV nsI
  rw [List.map_map, Int.sub_zero, Int.toNat_natCast]
  refine List.map_congr_left fun i _ => ?_
  show V.int (0 + (i : Int)) = V.int (i : Int)
  rw [Int.zero_add]
def rLenS (K : PySem.W.Frag) : List V → Hp → VK → Prop := fun xs H Q => ∃ (p : Addr) (ys : List V), xs = [.ref p] ∧ (SqL K H p ys ∨ SqT K H p ys) ∧ Q (.int ys.length) H
theorem call_lenS {X : Cx} : CallR X (.builtin "len") (rLenS X.K) := call_len_seq
def spIsTree (c : Addr) : Sp := fun vs H Q E => ∃ (l v : V) (a : Addr) (dl d : PyData), vs = [l, v] ∧ Dx a H l dl ∧ Dx a H v d ∧ (limD dl = true → ∀ H', Same H H' → Q (.bl (isTreeD (limsOf dl) d)) H') ∧
  (limD dl = false → ∀ dd H', Same H H' → H' dd = none → E (.ref c) (some dd) (upd H' dd (.xd [("value", l)])))
section
variable {P : Program} {w : World} {K : PySem.W.Frag} {mg : Str → Option Value} {base : Heap}
abbrev nTF : List Str := ["limits", "value", "many", "tied", "tie", "at", "limit"]
theorem scTreeFor : FnScope nTF ["limits", "value"] (defScope sTreeFor) := ⟨rfl, rfl, rfl, by decide +kernel, rfl, by decide +kernel, by decide +kernel⟩
theorem ok_treefor {f fC fO fA fT fF c : Addr} {fd fdC fdO fdA fdT fdF : FuncData} {k : Nat} (F : Fun K "is_tree_for" "is_tree_for" sTreeFor f fd) (B : Blt mg) (bi : mg "isinstance" = none) (bt : mg "tuple" = none) (ba : mg "all" = none) (be : mg "enumerate" = none)
    (GC : FnOk P w K mg base (L2N.CX P w) k fC fdC ["value"] (spChkLim c)) (gC : mg "check_limits" = some (.ref fC)) (kC : PySem.W.keepIn K (.ref fC) = true) (bC : Binds K fdC ["value"] [])
    (GO : FnOk P w K mg base CX0 k fO fdO ["value", "many"] spIsTieOf) (gO : mg "is_tie_of" = some (.ref fO)) (kO : PySem.W.keepIn K (.ref fO) = true) (bO : Binds K fdO ["value", "many"] [])
    (GA : FnOk P w K mg base CX0 k fA fdA ["values"] spAscT) (gA : mg "ascends" = some (.ref fA)) (kA : PySem.W.keepIn K (.ref fA) = true) (bA : Binds K fdA ["values"] [])
    (GT : FnOk P w K mg base CX0 k fT fdT ["places", "ties"] spTied) (gT : mg "tied_by" = some (.ref fT)) (kT : PySem.W.keepIn K (.ref fT) = true) (bT : Binds K fdT ["places", "ties"] [])
    (GF : FnOk P w K mg base CX0 k fF fdF ["tied", "place"] spFars) (gF : mg "far_along" = some (.ref fF)) (kF : PySem.W.keepIn K (.ref fF) = true) (bF : Binds K fdF ["tied", "place"] []) :
    FnOk P w K mg base (L2N.CX P w) (k + 1) f fd ["limits", "value"] (spIsTree c) := by
  refine okN F scTreeFor (fun vs H Q E h => ?_) (fun cdv A outer s H vs Q E hr h => ?_)
  · obtain ⟨l, v, a, dl, d, rfl, _⟩ := h
    rfl
  · obtain ⟨l, v, a, dl, d, rfl, xl, xv, q1, q2⟩ := h
    have hu := hu_of hr
    refine ⟨_, pss_cons (ps_expr (pe_call GC hr (by rfl) gC kC bC .nil passN (pa_cons (pv 0) pa_nil)))
      (pss_cons (ps_set (i := 2) scTreeFor.nd rfl (.inr rfl) (pe_callB call_len_seq (by rfl) B.len PySem.boot_len (pa_cons (pv 0) pa_nil)))
      (pss_cons (ps_if (PW.pt (pw_or (pt_not (pt_val (pe_callB call_isi (by rfl) bi PyProof.Rows.boot_isinstance (pa_cons (pv 1) (pa_cons (pe_bltn (v := .ty "tuple") (by rfl) bt (by decide +kernel) rfl) pa_nil)))))
        (pw_or1 (pt_cmpR op_ne (pe_callB call_len_seq (by rfl) B.len PySem.boot_len (pa_cons (pv 1) pa_nil)) (pe_op op_sub (pv 2) pe_int) (nomark _))))) (pss_one (ps_ret pe_bl)) pss_nil)
      (pss_cons (ps_if (PW.pt (pw_or (pt_not (pt_val (pe_callB (cr_all rfl) (by rfl) ba PyProof.Rows.boot_all (pa_cons (pe_lc (own := [("tie", 4)]) (g := gName 4) (tt := tYes) rfl scTreeFor.nd (pi_tup (pv 1)) (blkOk_by (N := nTF) (sc := defScope sTreeFor) (by decide +kernel))
          (fun _ _ _ _ _ => pg_name (i := 4) scTreeFor.nd rfl (Or.inl rfl)) (fun _ _ _ _ _ => pts_nil) (fun _ _ _ _ _ => pe_call GO hr (by rfl) gO kO bO .nil pass0 (pa_cons (pv 4) (pa_cons (pv 2) pa_nil)))) pa_nil))))
        (pw_or1 (pt_not (pt_val (pe_call GA hr (by rfl) gA kA bA .nil pass0 (pa_cons (pv 1) pa_nil))))))) (pss_one (ps_ret pe_bl)) pss_nil)
      (pss_cons (ps_set (i := 3) scTreeFor.nd rfl (.inr rfl) (pe_call GT hr (by rfl) gT kT bT .nil pass0 (pa_cons (pe_listRg rfl (by rfl) B.list (prg_1 (by rfl) B.range (pv 2))) (pa_cons (pv 1) pa_nil))))
      (pss_one (ps_ret (pe_and (pe_cmpR op_eq (pe_callB call_lenD (by rfl) B.len PySem.boot_len (pa_cons (pe_call GF hr (by rfl) gF kF bF .nil pass0 (pa_cons (pv 3) (pa_cons pe_int pa_nil))) pa_nil)) (pv 2) (nomark _))
        (pe_one (pe_callB (cr_all rfl) (by rfl) ba PyProof.Rows.boot_all (pa_cons (pe_lc (own := [("at", 5), ("limit", 6)]) (g := gTup K 2 (gCons (gName 5) (gCons (gName 6) gNil))) (tt := tYes) (te := tOp (rI0 fun i j => .bl (decide (i ≤ j))) (tCB (rLenS K) (tCons (tDGet (tVar 3) (tVar 5)) tNil)) (tVar 6)) rfl scTreeFor.nd (pi_enumT (by rfl) be (pa_cons (pv 0) pa_nil))
          (blkOk_by (N := nTF) (sc := defScope sTreeFor) (by decide +kernel)) (fun _ _ _ _ _ => pg_tup rfl (pgs_cons (pg_name (i := 5) scTreeFor.nd rfl (Or.inl rfl)) (pgs_cons (pg_name (i := 6) scTreeFor.nd rfl (Or.inl rfl)) pgs_nil))) (fun _ _ _ _ _ => pts_nil)
          (fun _ _ _ _ _ => pe_cmpR op_le (pe_callB call_lenS (by rfl) B.len PySem.boot_len (pa_cons (pe_dget hu (pv 3) (pv 5) (fun _ _ => rfl)) pa_nil)) (pv 6) (nomark _))) pa_nil)))))))))), ?_⟩
    refine rs_expr ?_
    refine ⟨l, rfl, l, a, dl, rfl, xl, fun hl H1 s1 => ?_, fun hl dd H1 s1 nd => q2 hl dd H1 s1 nd⟩
    obtain ⟨t, ls, rfl, rfl, ne, e1, L⟩ := limD_ex xl hl
    rw [limsOf_ints] at q1
    have q := q1 hl
    clear q1 q2
    have e1' := s1 _ _ e1
    refine rs_set ?_
    refine ⟨.ref t, rfl, t, ls.map V.int, rfl, .inr (sqt_of e1'), ?_⟩
    rw [List.length_map]
    have xv1 := Dx.keep (.of s1) _ _ xv
    refine rs_no ?_
    refine ⟨v, rfl, v, .ty "tuple", .type (tyD d), .type "tuple", isTupD d, rfl, .ty _, xv1.tyx, kit_tuple d, isTupD d, rfl, ?_⟩
    cases hT : isTupD d with
    | false =>
      show if true = true then _ else _
      rw [if_pos rfl]
      rw [isTreeD_no hT] at q
      exact q H1 s1
    | true =>
      obtain ⟨ds, rfl⟩ := isTup_ex hT
      obtain ⟨tv, xs, rfl, ev, nv, xa⟩ := dx_tup xv1
      have hlen := xa.length
      rw [isTreeD_tup] at q
      show if false = true then _ else _
      rw [if_neg Bool.false_ne_true]
      refine ⟨.ref tv, rfl, tv, xs, rfl, .inr (sqt_of ev), .int (ls.length : Nat), rfl, _, _, rfl, rfl, rfl, _, rfl, ?_⟩
      rw [hlen]
      by_cases h2 : ds.length + 1 = ls.length
      · rw [decide_eq_true h2, Bool.true_and] at q
        rw [decide_eq_true (show V.int ((ds.length : Nat) : Int) = V.int ((ls.length : Nat) - 1) from congrArg V.int (by omega))]
        show if false = true then _ else _
        rw [if_neg Bool.false_ne_true]
        refine rs_no ?_
        refine ⟨.ref tv, rfl, tv, rfl, ⟨_, sqt_of ev⟩, fun D hD => lc_tup (xs := xs) (fun i H' => Same H1 H' ∧ H' D = some (.lst (((ds.take i).map (tieD ls.length)).map V.bl))) ⟨same_upd hD, upd_same⟩ (fun i H' _ h => sqt_of (h.1 _ _ ev)) ?_ ?_⟩
        · rintro i x H' hx ⟨sx, eD⟩
          obtain ⟨d', hd', xd⟩ := dx_get xa hx
          have hm := L.most
          refine ⟨rfl, r_yes ?_⟩
          refine ⟨x, rfl, .int (ls.length : Nat), rfl, x, a, d', ls.length, rfl, Dx.keep (.of sx) _ _ xd, fun H'' s'' => ⟨_, s'' _ _ eD, smallM2 (by rw [List.length_map, List.length_map, List.length_take]; omega), ?_, ?_⟩⟩
          · intro b o e
            rw [upd_ne (ne_of_none e hD)]
            exact s'' _ _ (sx _ _ e)
          · rw [upd_same, take_snoc hd', List.map_append, List.map_append]; rfl
        · rintro H2 ⟨s2, eD⟩
          rw [hlen, List.take_length] at eD
          refine ⟨D, _, rfl, sql_of eD, _, rfl, ?_⟩
          rw [List.all_map]
          show if (!(ds.all (tieD ls.length))) = true then _ else _
          cases h3 : ds.all (tieD ls.length) with
          | false =>
            rw [h3] at q
            show if true = true then _ else _
            rw [if_pos rfl]
            exact q H2 (s1.trans s2)
          | true =>
            rw [h3, Bool.true_and] at q
            show if false = true then _ else _
            rw [if_neg Bool.false_ne_true]
            obtain ⟨qs, ts, rfl, rfl, hq, ht⟩ := ties_ex xa h3
            rw [tiesOf_ti] at q
            rw [List.length_map] at h2
            have hm := L.most
            have hone := L.one
            have hq2 : Paired (TieL H2) qs ts := paired_mono (fun q t e => s2 _ _ e) hq
            refine ⟨.ref tv, rfl, tv, qs, ts, rfl, s2 _ _ ev, hq2, by omega, fun H3 s3 => ⟨_, rfl, ?_⟩⟩
            have s13 := (s1.trans s2).trans s3
            cases h4 : ascB ts with
            | false =>
              rw [h4] at q
              show if true = true then _ else _
              rw [if_pos rfl]
              exact q H3 s13
            | true =>
              rw [h4, Bool.true_and] at q
              show if false = true then _ else _
              rw [if_neg Bool.false_ne_true]
              have fine := fine_of (n := ls.length) (ts := ts) hm (by omega) ht
              refine rs_set ?_
              refine ⟨.int (ls.length : Nat), rfl, _, rfl, .of_le (by omega) (by omega) (by omega) (by omega), fun p np => ?_⟩
              rw [rg_ns]
              have sp := same_upd (o := .lst ((nsI ls.length).map V.int)) np
              refine ⟨.ref tv, rfl, p, tv, nsI ls.length, ts, qs, rfl, fine, upd_same, sp _ _ (s3 _ _ (s2 _ _ ev)), paired_mono (fun q t e => sp _ _ (s3 _ _ e)) hq2, fun Dt fa H4 s4 nl nD nf => ?_⟩
              have s14 := (s13.trans sp).trans s4
              have e4 := s14 _ _ e1
              clear sp np nD nf
              have hnb := fine_nb fine
              have h0 : (0 : Int) ∈ nsI ls.length := mem_ns (i := 0) (by omega)
              refine ⟨.ref Dt, rfl, Dt, 0, fa, nsI ls.length, ts, rfl, nl, h0, by rw [ns_len]; omega, hnb, fun far fd' H5 hb hf s5 e5 n5 => ?_⟩
              have efar : far = reachN ts ls.length 0 := hb.uniq (reach_bfs hnb h0 (by rw [ns_len]; exact Nat.le_refl _))
              refine ⟨fd', encF far, rfl, e5, .int (ls.length : Nat), rfl, rfl, _, rfl, ?_⟩
              have s15 := s14.trans s5
              have lf : (encF far).length = far.length := by unfold encF; rw [List.length_map]
              rw [lf, efar]
              unfold treeT at q
              by_cases h6 : (reachN ts ls.length 0).length = ls.length
              · rw [decide_eq_true h6, Bool.true_and] at q
                rw [decide_eq_true (show V.int (((reachN ts ls.length 0).length : Nat) : Int) = V.int ((ls.length : Nat) : Int) from congrArg V.int (by omega))]
                show if true = true then _ else _
                rw [if_pos rfl]
                have e5' := s15 _ _ e1
                have nl5 := nl.keep s5
                refine ⟨.ref t, rfl, t, ls.map V.int, rfl, sqt_of e5', fun D2 nD2 => lc_it walk_enumT (fun i H' => Same H5 H' ∧ H' D2 = some (.lst (((List.range i).map fun i => decide (((nbr ts (i : Nat)).length : Int) ≤ ls.getD i 0)).map V.bl))) ⟨same_upd nD2, upd_same⟩ (fun i H' _ h => sqt_of (h.1 _ _ e5')) ?_ ?_⟩
                · rintro i x H' H'' hi ⟨sx, eD2⟩ ⟨T, u, v, rfl, nT, rfl, hu', hv⟩
                  obtain rfl : V.int (i : Int) = u := Option.some.inj hu'
                  obtain ⟨g, hg, rfl⟩ := Hw.map_get hv
                  have hi' := (List.getElem?_eq_some_iff.mp hg).1
                  have sT := same_upd (o := .tup [.int (i : Int), .int g]) nT
                  refine ⟨T, [.int (i : Int), .int g], rfl, sqt_of upd_same, rfl, _, [.int g], rfl, _, [], rfl, rfl, rfl, r_yes ?_⟩
                  have hin : ((i : Nat) : Int) ∈ nsI ls.length := mem_ns hi'
                  have nlx := (nl5.keep sx).keep sT
                  refine ⟨.ref Dt, rfl, .int (i : Int), rfl, Dt, _, rfl, nlx.get hin, fa i, _, rfl, .inl (sql_of (nlx.lst _ hin)), .int g, rfl, _, _, rfl, rfl, ?_⟩
                  refine ⟨_, sT _ _ eD2, smallM2 (by rw [List.length_map, List.length_map, List.length_range]; omega), fun b o e => ?_, ?_⟩
                  · rw [upd_ne (ne_of_none e nD2)]; exact sT _ _ (sx _ _ e)
                  · rw [upd_same, List.range_succ, List.map_append, List.map_append, List.length_map]
                    have eg : ls.getD i 0 = g := by simp [List.getD, hg]
                    show _ = some (HO.lst (_ ++ [V.bl (decide (((nbr ts (i : Nat)).length : Int) ≤ ls.getD i 0))]))
                    rw [eg]
                · rintro H6 ⟨s6, eD2⟩
                  rw [List.length_map] at eD2
                  refine ⟨D2, _, rfl, sql_of eD2, ?_⟩
                  rw [List.all_map]
                  exact q H6 (s15.trans s6)
              · rw [decide_eq_false h6] at q
                rw [decide_eq_false (show ¬ V.int (((reachN ts ls.length 0).length : Nat) : Int) = V.int ((ls.length : Nat) : Int) from fun e => h6 (by injection e with e; omega))]
                exact q H5 s15
      · rw [decide_eq_false h2] at q
        rw [decide_eq_false (show ¬ V.int ((ds.length : Nat) : Int) = V.int ((ls.length : Nat) - 1) from fun e => h2 (by injection e with e; have := L.one; omega))]
        show if true = true then _ else _
        rw [if_pos rfl]
        exact q H1 s1
end
end HI

set_option Elab.async false
set_option linter.all false
set_option maxRecDepth 100000
set_option maxHeartbeats 4000000
namespace HI
open PySem L2 PyProof.Rows Hw
/-! the low tree of any limits -/
def leT (a b : Tie) : Bool := !ltT b a
def srt (ts : List Tie) : List Tie := ts.mergeSort leT
def ordG (ls : List Int) : List Tie := (List.range ls.length).map fun i => (-(ls.getD i 0), ((i : Nat) : Int))
def psG (ls : List Int) : List Int := (srt (ordG ls)).map (·.2)
def vsG (ls : List Int) : List Int := (srt (ordG ls)).map fun t => -t.1
def limAt (ls : List Int) (p : Int) : Int := ls.getD p.toNat 0
def roomG (ls : List Int) (i : Nat) : List Int := List.replicate (limAt ls ((psG ls).getD 0 0)).toNat ((psG ls).getD 0 0) ++ (List.range i).flatMap fun j => List.replicate (limAt ls ((psG ls).getD (j + 1) 0) - 1).toNat ((psG ls).getD (j + 1) 0)
def pairI (a b : Int) : Tie := if a < b then (a, b) else (b, a)
def rawT (ls : List Int) : List Tie := (List.range (ls.length - 1)).map fun i => pairI ((roomG ls i).getD i 0) ((psG ls).getD (i + 1) 0)
def lowT (ls : List Int) : List Tie := srt (rawT ls)
theorem srt_perm (ts : List Tie) : (srt ts).Perm ts := List.mergeSort_perm ts leT
theorem srt_len (ts : List Tie) : (srt ts).length = ts.length := (srt_perm ts).length_eq
theorem ordG_len (ls : List Int) : (ordG ls).length = ls.length := by unfold ordG; rw [List.length_map, List.length_range]
theorem psG_len (ls : List Int) : (psG ls).length = ls.length := by unfold psG; rw [List.length_map, srt_len, ordG_len]
theorem vsG_len (ls : List Int) : (vsG ls).length = ls.length := by unfold vsG; rw [List.length_map, srt_len, ordG_len]
theorem psG_perm (ls : List Int) : (psG ls).Perm (nsI ls.length) := by
  have h := (srt_perm (ordG ls)).map (fun t : Tie => t.2)
  have e : (ordG ls).map (fun t : Tie => t.2) = nsI ls.length := by
    unfold ordG nsI
    rw [List.map_map]; rfl
  rw [e] at h
  exact h
theorem range_getD (ls : List Int) : ((List.range ls.length).map fun i => ls.getD i 0) = ls := by
  refine List.ext_getElem? fun i => ?_
  rw [List.getElem?_map]
  by_cases h : i < ls.length
  · rw [List.getElem?_range h, List.getElem?_eq_getElem h]
    simp [List.getD, List.getElem?_eq_getElem h]
  · rw [List.getElem?_eq_none (by rw [List.length_range]; omega), List.getElem?_eq_none (by omega)]; rfl
theorem vsG_perm (ls : List Int) : (vsG ls).Perm ls := by
  have h := (srt_perm (ordG ls)).map (fun t : Tie => -t.1)
  have e : (ordG ls).map (fun t : Tie => -t.1) = ls := by
    unfold ordG
    rw [List.map_map]
    have : (fun t : Tie => -t.1) ∘ (fun i : Nat => ((-(ls.getD i 0), ((i : Nat) : Int)) : Tie)) = fun i => ls.getD i 0 := by
      funext i
      show - -(ls.getD i 0) = ls.getD i 0
      omega
    rw [this]
    exact range_getD ls
  rw [e] at h
  exact h
theorem psG_nd (ls : List Int) : (psG ls).Nodup := (psG_perm ls).nodup_iff.mpr (ns_nd _)
theorem psG_mem {ls : List Int} {p : Int} (h : p ∈ psG ls) : 0 ≤ p ∧ p < ls.length := by
  have h := (psG_perm ls).mem_iff.mp h
  unfold nsI at h
  obtain ⟨i, hi, rfl⟩ := List.mem_map.mp h
  have := List.mem_range.mp hi
  omega
theorem lim_val (ls : List Int) (i : Nat) : limAt ls ((psG ls).getD i 0) = (vsG ls).getD i (limAt ls 0) := by
  unfold psG vsG
  by_cases h : i < (srt (ordG ls)).length
  · have hm := (srt_perm (ordG ls)).mem_iff.mp (List.getElem_mem h)
    unfold ordG at hm
    obtain ⟨j, _, e⟩ := List.mem_map.mp hm
    simp only [List.getD, List.getElem?_map, List.getElem?_eq_getElem h, Option.map_some, Option.getD_some]
    have e1 : (srt (ordG ls))[i].2 = (j : Int) := by unfold ordG; rw [← e]
    have e2 : (srt (ordG ls))[i].1 = -(ls.getD j 0) := by unfold ordG; rw [← e]
    rw [e1, e2]
    unfold limAt
    rw [Int.toNat_natCast]
    simp only [List.getD]
    omega
  · simp only [List.getD, List.getElem?_map, List.getElem?_eq_none (by omega : (srt (ordG ls)).length ≤ i), Option.map_none, Option.getD_none]
theorem leT_trans (a b c : Tie) (h1 : leT a b = true) (h2 : leT b c = true) : leT a c = true := by
  unfold leT ltT at *
  simp only [Bool.not_eq_true', Bool.or_eq_false_iff, decide_eq_false_iff_not, Bool.and_eq_false_iff] at *
  omega
theorem leT_total (a b : Tie) : (leT a b || leT b a) = true := by
  unfold leT ltT
  rw [Bool.or_eq_true]
  simp only [Bool.not_eq_true', Bool.or_eq_false_iff, decide_eq_false_iff_not, Bool.and_eq_false_iff]
  omega
theorem srt_pw (ts : List Tie) : (srt ts).Pairwise fun a b => leT a b = true := List.pairwise_mergeSort leT_trans leT_total ts
theorem vsG_desc (ls : List Int) : (vsG ls).Pairwise fun a b => b ≤ a := by
  unfold vsG
  rw [List.pairwise_map]
  refine (srt_pw _).imp fun {a b} h => ?_
  unfold leT ltT at h
  simp only [Bool.not_eq_true', Bool.or_eq_false_iff, decide_eq_false_iff_not] at h
  omega
theorem perm_sum {xs ys : List Int} (h : xs.Perm ys) : xs.sum = ys.sum := by
  induction h with
  | nil => rfl
  | cons x _ ih => rw [List.sum_cons, List.sum_cons, ih]
  | swap x y l => simp only [List.sum_cons]; omega
  | trans _ _ i1 i2 => exact i1.trans i2
theorem sum_ge {xs : List Int} {c : Int} (h : ∀ x ∈ xs, c ≤ x) : c * (xs.length : Int) ≤ xs.sum := by
  induction xs with
  | nil => simp
  | cons x xs ih =>
    have := ih fun y hy => h y (List.mem_cons_of_mem _ hy)
    have := h x List.mem_cons_self
    rw [List.sum_cons, List.length_cons]
    rw [show ((xs.length + 1 : Nat) : Int) = (xs.length : Int) + 1 from by omega, Int.mul_add]
    omega
theorem sum_le {xs : List Int} {c : Int} (h : ∀ x ∈ xs, x ≤ c) : xs.sum ≤ c * (xs.length : Int) := by
  induction xs with
  | nil => simp
  | cons x xs ih =>
    have := ih fun y hy => h y (List.mem_cons_of_mem _ hy)
    have := h x List.mem_cons_self
    rw [List.sum_cons, List.length_cons]
    rw [show ((xs.length + 1 : Nat) : Int) = (xs.length : Int) + 1 from by omega, Int.mul_add]
    omega
/-- falling numbers: the first ones are enough -/
theorem take_enough {vs : List Int} (hd : vs.Pairwise fun a b => b ≤ a) (h1 : ∀ v ∈ vs, 1 ≤ v) (hs : 2 * ((vs.length : Int) - 1) ≤ vs.sum) {j : Nat} (hj : j + 1 < vs.length) : 2 * (j : Int) + 1 ≤ (vs.take (j + 1)).sum := by
  have hlt : (vs.take (j + 1)).length = j + 1 := by rw [List.length_take]; omega
  by_cases hv : 2 ≤ vs[j]
  · have : 2 * ((vs.take (j + 1)).length : Int) ≤ (vs.take (j + 1)).sum := sum_ge fun x hx => by
      obtain ⟨i, hi, rfl⟩ := List.mem_iff_getElem.mp hx
      rw [hlt] at hi
      rw [List.getElem_take]
      rcases Nat.lt_or_ge i j with a | a
      · have := List.pairwise_iff_getElem.mp hd i j (by omega) (by omega) a
        omega
      · have : i = j := by omega
        subst this; exact hv
    rw [hlt] at this
    omega
  · have hsum : vs.sum = (vs.take (j + 1)).sum + (vs.drop (j + 1)).sum := by rw [← List.sum_append, List.take_append_drop]
    have hdr : (vs.drop (j + 1)).sum ≤ 1 * ((vs.drop (j + 1)).length : Int) := sum_le fun x hx => by
      obtain ⟨i, hi, rfl⟩ := List.mem_iff_getElem.mp hx
      rw [List.getElem_drop]
      rw [List.length_drop] at hi
      have := List.pairwise_iff_getElem.mp hd j (j + 1 + i) (by omega) (by omega) (by omega)
      omega
    rw [List.length_drop] at hdr
    omega
theorem roomG_succ (ls : List Int) (i : Nat) : roomG ls (i + 1) = roomG ls i ++ List.replicate (limAt ls ((psG ls).getD (i + 1) 0) - 1).toNat ((psG ls).getD (i + 1) 0) := by
  unfold roomG
  rw [List.range_succ, List.flatMap_append, List.append_assoc]
  simp
theorem roomG_len {ls : List Int} (h1 : ∀ v ∈ ls, 1 ≤ v) : ∀ {i : Nat}, i < ls.length → ((roomG ls i).length : Int) + i = ((vsG ls).take (i + 1)).sum
  | 0, h => by
    have hv : 0 < (vsG ls).length := by rw [vsG_len]; exact h
    have e := lim_val ls 0
    unfold roomG
    rw [e]
    have hm : (vsG ls)[0] ∈ ls := (vsG_perm ls).mem_iff.mp (List.getElem_mem hv)
    have g := h1 _ hm
    rw [List.take_succ, List.take_zero, List.getElem?_eq_getElem hv]
    simp [List.getD, List.getElem?_eq_getElem hv]
    omega
  | i + 1, h => by
    have ih := roomG_len h1 (i := i) (by omega)
    have hv : i + 1 < (vsG ls).length := by rw [vsG_len]; exact h
    have hm : (vsG ls)[i + 1] ∈ ls := (vsG_perm ls).mem_iff.mp (List.getElem_mem hv)
    have g := h1 _ hm
    rw [roomG_succ, List.length_append, List.length_replicate, lim_val]
    rw [List.take_succ (i := i + 1), List.getElem?_eq_getElem hv, List.sum_append]
    simp only [List.getD, List.getElem?_eq_getElem hv, Option.getD_some, Option.toList, List.sum_cons, List.sum_nil]
    omega
theorem roomG_ok {ls : List Int} (L : Lims ls) (ht : treeB ls = true) {i : Nat} (hi : i + 1 < ls.length) : i < (roomG ls i).length := by
  unfold treeB at ht
  simp only [Bool.not_eq_true', Bool.and_eq_false_iff, Bool.or_eq_false_iff, decide_eq_false_iff_not] at ht
  rcases ht with ht | ht
  · omega
  · have h1 : ∀ v ∈ ls, 1 ≤ v := fun v hv => by
      have := (L.each v hv).1
      by_cases h0 : v = 0
      · subst h0; exact absurd hv ht.1
      · omega
    have hl := roomG_len h1 (i := i) (by omega)
    have hs : (vsG ls).sum = ls.sum := perm_sum (vsG_perm ls)
    have := take_enough (vsG_desc ls) (fun v hv => h1 v ((vsG_perm ls).mem_iff.mp hv)) (by rw [hs, vsG_len]; omega) (j := i) (by rw [vsG_len]; exact hi)
    omega
theorem roomG_mem {ls : List Int} {i : Nat} (hi : i < ls.length) {r : Int} (h : r ∈ roomG ls i) : r ∈ (psG ls).take (i + 1) := by
  have at_ : ∀ j, j ≤ i → (psG ls).getD j 0 ∈ (psG ls).take (i + 1) := fun j hj => by
    have hp : j < (psG ls).length := by rw [psG_len]; omega
    rw [List.mem_take_iff_getElem]
    refine ⟨j, by omega, ?_⟩
    simp [List.getD, List.getElem?_eq_getElem hp]
  unfold roomG at h
  rcases List.mem_append.mp h with h | h
  · rw [List.eq_of_mem_replicate h]
    exact at_ 0 (Nat.zero_le _)
  · obtain ⟨j, hj, h⟩ := List.mem_flatMap.mp h
    rw [List.eq_of_mem_replicate h]
    have := List.mem_range.mp hj
    exact at_ (j + 1) (by omega)
theorem limAt_le {ls : List Int} (L : Lims ls) (p : Int) : limAt ls p ≤ 200 := by
  unfold limAt
  generalize p.toNat = m
  by_cases h : m < ls.length
  · simp only [List.getD, List.getElem?_eq_getElem h, Option.getD_some]
    exact (L.each _ (List.getElem_mem h)).2
  · simp [List.getD, List.getElem?_eq_none (by omega : ls.length ≤ m)]
theorem roomG_few {ls : List Int} (L : Lims ls) : ∀ i, (roomG ls i).length ≤ 200 + i * 200
  | 0 => by
    have h : (roomG ls 0).length = (limAt ls ((psG ls).getD 0 0)).toNat := by
      unfold roomG
      rw [List.range_zero, List.flatMap_nil, List.append_nil, List.length_replicate]
    have := limAt_le L ((psG ls).getD 0 0)
    omega
  | i + 1 => by
    have ih := roomG_few L i
    rw [roomG_succ, List.length_append, List.length_replicate]
    have := limAt_le L ((psG ls).getD (i + 1) 0)
    omega
theorem raw_tie {ls : List Int} (L : Lims ls) (ht : treeB ls = true) : ∀ t ∈ rawT ls, 0 ≤ t.1 ∧ t.1 < t.2 ∧ t.2 ≤ (ls.length : Int) - 1 := by
  intro t h
  unfold rawT at h
  obtain ⟨i, hi, rfl⟩ := List.mem_map.mp h
  have hi := List.mem_range.mp hi
  have hr := roomG_ok L ht (i := i) (by omega)
  have er : (roomG ls i).getD i 0 = (roomG ls i)[i] := by simp [List.getD, List.getElem?_eq_getElem hr]
  have hm := roomG_mem (i := i) (by omega) (List.getElem_mem hr)
  have hp : i + 1 < (psG ls).length := by rw [psG_len]; omega
  have ep : (psG ls).getD (i + 1) 0 = (psG ls)[i + 1] := by simp [List.getD, List.getElem?_eq_getElem hp]
  rw [er, ep]
  have b1 := psG_mem (List.mem_of_mem_take hm)
  have b2 := psG_mem (List.getElem_mem hp)
  have ne : (roomG ls i)[i] ≠ (psG ls)[i + 1] := fun e => by
    rw [e] at hm
    exact nodup_take (psG_nd ls) (List.getElem?_eq_getElem hp) hm
  unfold pairI
  split
  · exact ⟨by omega, by assumption, by omega⟩
  · exact ⟨b2.1, by show (psG ls)[i + 1] < (roomG ls i)[i]; omega, by show (roomG ls i)[i] ≤ _; omega⟩
theorem low_tie {ls : List Int} (L : Lims ls) (ht : treeB ls = true) : ∀ t ∈ lowT ls, 0 ≤ t.1 ∧ t.1 < t.2 ∧ t.2 ≤ (ls.length : Int) - 1 := fun t h => raw_tie L ht t ((srt_perm _).mem_iff.mp h)
theorem low_len (ls : List Int) : (lowT ls).length = ls.length - 1 := by unfold lowT; rw [srt_len]; unfold rawT; rw [List.length_map, List.length_range]
def farT (ts : List Tie) (n : Nat) : Nat := (lastR ts (2 * n) (lastR ts (2 * n) 0).2).1
theorem maxPr_mem (x : Nat × Int) : ∀ xs : List (Nat × Int), maxPr x xs ∈ x :: xs := by
  intro xs
  unfold maxPr
  induction xs generalizing x with
  | nil => exact List.mem_cons_self
  | cons y xs ih =>
    rw [List.foldl_cons]
    by_cases h : ltPr x y = true
    · rw [if_pos h]
      exact List.mem_cons_of_mem _ (ih y)
    · rw [if_neg h]
      rcases List.mem_cons.mp (ih x) with e | e
      · rw [e]; exact List.mem_cons_self
      · exact List.mem_cons_of_mem _ (List.mem_cons_of_mem _ e)
theorem lastR_mem {ns : List Int} {ts : List Tie} (hnb : ∀ n ∈ ns, ∀ o ∈ nbr ts n, o ∈ ns) {p : Int} (hp : p ∈ ns) (n : Nat) : (lastR ts n p).2 ∈ ns := by
  obtain ⟨n0, f⟩ := lev_ok hnb hp n
  have hs := lev_self hnb hp n
  unfold lastR
  split
  · rename_i e
    rw [List.map_eq_nil_iff.mp e] at hs
    cases hs
  · rename_i x xs e
    have hm := maxPr_mem x xs
    rw [← e] at hm
    obtain ⟨z, hz, ez⟩ := List.mem_map.mp hm
    rw [← ez]
    exact f.sub _ (List.mem_map.mpr ⟨z, hz, rfl⟩)
end HI

set_option Elab.async false
set_option linter.all false
set_option maxRecDepth 100000
set_option maxHeartbeats 4000000
namespace HI
open PySem L2 PyProof.Rows Hw
def spPairG : Sp := fun vs H Q _ => ∃ a b : Int, vs = [.int a, .int b] ∧ ∀ p, H p = none → Q (.ref p) (upd H p (.tup [.int (pairI a b).1, .int (pairI a b).2]))
def spLowG : Sp := fun vs H Q _ => ∃ (a : Addr) (ls : List Int), vs = [.ref a] ∧ H a = some (.tup (ls.map V.int)) ∧ Lims ls ∧ treeB ls = true ∧ ∀ (t : Addr) (qs : List Addr) H', Same H H' → H' t = some (.tup (qs.map V.ref)) → Paired (TieL H') qs (lowT ls) → Q (.ref t) H'
theorem map_ms {α β : Type} (f : α → β) (r : α → α → Bool) (s : β → β → Bool) {l : List α} (h : ∀ a ∈ l, ∀ b ∈ l, r a b = s (f a) (f b)) : (l.mergeSort r).map f = (l.map f).mergeSort s := List.map_mergeSort h
/-- sorted of a list of refs to pairs of ints -/
theorem sort_tieG {K : PySem.W.Frag} {H : Hp} {a : Addr} {tp : List Addr} {ts : List Tie} {Q : VK} (e : H a = some (.lst (tp.map V.ref))) (hp : Paired (TieL H) tp ts) (hl : ts.length ≤ 1000)
    (q : ∀ p (tp' : List Addr), H p = none → Paired (TieL H) tp' (srt ts) → Q (.ref p) (upd H p (.lst (tp'.map V.ref)))) : rSortB K [.ref a] H Q := by
  obtain ⟨l, rfl, rfl, hl3⟩ := zip_of hp
  have b1 : (l.map fun x => (V.ref x.1, tiD x.2)).map (·.1) = (l.map (·.1)).map V.ref := by rw [List.map_map, List.map_map]; rfl
  have b2 : (l.map fun x => (V.ref x.1, tiD x.2)).map (·.2) = (l.map (·.2)).map tiD := by rw [List.map_map, List.map_map]; rfl
  have b3 : (l.map fun x => (V.ref x.1, tiD x.2)).mergeSort (PySem.W.dataLe false (·.2)) = (l.mergeSort fun x y => leT x.2 y.2).map fun x => (V.ref x.1, tiD x.2) := by
    refine (map_ms _ _ _ fun x _ y _ => ?_).symm
    rw [PySem.W.dataLe_eq]
    show leT x.2 y.2 = (!PySem.W.dataLt (tiD y.2) (tiD x.2))
    rw [dataLt_ti]; rfl
  have b4 : (l.mergeSort fun x y => leT x.2 y.2).map (·.2) = srt (l.map (·.2)) := map_ms _ _ _ fun x _ y _ => rfl
  refine ⟨a, l.map fun x => (V.ref x.1, tiD x.2), rfl, by rw [b1]; exact sql_of e, fun b hb => ?_, by rw [b2]; exact alike_ti _, by rw [b2]; exact sortable_ti _, ?_, fun p np => ?_⟩
  · obtain ⟨x, hx, rfl⟩ := List.mem_map.mp hb
    exact ⟨.tup (sqt_of (hl3 x hx)) (.cons (.int _) (.cons (.int _) .nil)), depth_ti _⟩
  · rw [List.length_map] at hl ⊢
    exact Nat.le_of_lt (smallM2 (by omega))
  · have e5 : ((l.mergeSort fun x y => leT x.2 y.2).map fun x => (V.ref x.1, tiD x.2)).map (·.1) = ((l.mergeSort fun x y => leT x.2 y.2).map (·.1)).map V.ref := by rw [List.map_map, List.map_map]; rfl
    rw [b3, e5]
    refine q p _ np ?_
    rw [← b4]
    have hm : ∀ x ∈ (l.mergeSort fun x y => leT x.2 y.2), TieL H x.1 x.2 := fun x hx => hl3 x (List.mem_mergeSort.mp hx)
    generalize (l.mergeSort fun x y => leT x.2 y.2) = l' at hm
    clear b1 b2 b3 b4 e5 np hp e hl hl3
    induction l' with
    | nil => exact .nil
    | cons x xs ih => exact .cons (hm x List.mem_cons_self) (ih fun y hy => hm y (List.mem_cons_of_mem _ hy))
theorem lims_at_p {ls : List Int} {p : Int} (h0 : 0 ≤ p) (h1 : p < ls.length) : atI (ls.map V.int) p = some (.int (limAt ls p)) := by
  have hp : p.toNat < ls.length := by omega
  have := atI_nat (xs := ls.map V.int) (j := p.toNat) (v := .int (limAt ls p)) (by
    rw [List.getElem?_map, List.getElem?_eq_getElem hp]
    unfold limAt
    simp [List.getD, List.getElem?_eq_getElem hp])
  rwa [Int.toNat_of_nonneg h0] at this
theorem limAt_nn {ls : List Int} (L : Lims ls) (p : Int) : 0 ≤ limAt ls p := by
  unfold limAt
  generalize p.toNat = m
  by_cases h : m < ls.length
  · simp only [List.getD, List.getElem?_eq_getElem h, Option.getD_some]
    exact (L.each _ (List.getElem_mem h)).1
  · simp [List.getD, List.getElem?_eq_none (by omega : ls.length ≤ m)]
theorem ps_getD {ls : List Int} {i : Nat} (h : i < ls.length) : (psG ls)[i]? = some ((psG ls).getD i 0) := by
  have hp : i < (psG ls).length := by rw [psG_len]; exact h
  simp [List.getD, List.getElem?_eq_getElem hp]
theorem ps_cons {ls : List Int} (h : 0 < ls.length) : psG ls = (psG ls).getD 0 0 :: (psG ls).drop 1 := by
  have hp : 0 < (psG ls).length := by rw [psG_len]; exact h
  have e : (psG ls).getD 0 0 = (psG ls)[0] := by simp [List.getD, List.getElem?_eq_getElem hp]
  rw [e]
  exact (List.drop_eq_getElem_cons hp).symm ▸ (List.drop_zero).symm
section
variable {P : Program} {w : World} {K : PySem.W.Frag} {mg : Str → Option Value} {base : Heap}
end
end HI

set_option Elab.async false
set_option linter.all false
set_option maxRecDepth 100000
set_option maxHeartbeats 4000000
namespace HI
open PySem L2 PyProof.Rows Hw
abbrev sTreeFar : Stmt := topS 16
def ErrAt (c : Addr) (v : V) (H : Hp) (E : XK) : Prop := ∀ dd H', Same H H' → H' dd = none → E (.ref c) (some dd) (upd H' dd (.xd [("value", v)]))
theorem ErrAt.keep {c : Addr} {v : V} {H H1 : Hp} {E : XK} (h : ErrAt c v H E) (s : Same H H1) : ErrAt c v H1 E := fun dd H' s' nd => h dd H' (s.trans s') nd
def tiesD : PyData → List Tie
  | .tuple ds => tiesOf ds
  | _ => []
theorem tiesD_ti (ts : List Tie) : tiesD (.tuple (ts.map tiD)) = ts := tiesOf_ti ts
theorem isTree_ex {a : Addr} {H : Hp} {v : V} {d : PyData} {ls : List Int} (x : Dx a H v d) (L : Lims ls) (h : isTreeD ls d = true) : ∃ tv qs ts, v = .ref tv ∧ d = .tuple (ts.map tiD) ∧ H tv = some (.tup (qs.map V.ref)) ∧ Paired (TieL H) qs ts ∧ FineW (nsI ls.length) ts := by
  have hT : isTupD d = true := by
    cases hh : isTupD d with
    | true => rfl
    | false => rw [isTreeD_no hh] at h; cases h
  obtain ⟨ds, rfl⟩ := isTup_ex hT
  obtain ⟨tv, xs, rfl, ev, nv, xa⟩ := dx_tup x
  rw [isTreeD_tup, Bool.and_eq_true, Bool.and_eq_true] at h
  obtain ⟨h1, h2, _⟩ := h
  have h1 := of_decide_eq_true h1
  obtain ⟨qs, ts, rfl, rfl, hq, ht⟩ := ties_ex xa h2
  rw [List.length_map] at h1
  have := L.most
  exact ⟨tv, qs, ts, rfl, rfl, ev, hq, fine_of L.most (by omega) ht⟩
def spWayG : Sp := fun vs H Q _ => ∃ (t : Addr) (n : Nat) (ts : List Tie) (qs : List Addr), vs = [.int (n : Nat), .ref t] ∧ 1 ≤ n ∧ n ≤ 200 ∧ FineW (nsI n) ts ∧ H t = some (.tup (qs.map V.ref)) ∧ Paired (TieL H) qs ts ∧ ∀ H', Same H H' → Q (.int (farT ts n : Nat)) H'
def spTreeFar (c : Nat → Addr) : Sp := fun vs H Q E => ∃ (l v : V) (a : Addr) (dl d : PyData), vs = [l, v] ∧ Dx a H l dl ∧ Dx a H v d ∧ (limD dl = false → ErrAt (c 0) l H E) ∧ (limD dl = true → isTreeD (limsOf dl) d = false → ErrAt (c 1) v H E) ∧
  (limD dl = true → isTreeD (limsOf dl) d = true → ∀ H', Same H H' → Q (.int (farT (tiesD d) (limsOf dl).length : Nat)) H')
def spLeastF (c : Nat → Addr) : Sp := fun vs H Q E => ∃ (l : V) (a : Addr) (dl : PyData), vs = [l] ∧ Dx a H l dl ∧ (limD dl = false → ErrAt (c 0) l H E) ∧ (limD dl = true → treeB (limsOf dl) = false → ErrAt (c 2) l H E) ∧
  (limD dl = true → treeB (limsOf dl) = true → ∀ (p t : Addr) (qs : List Addr) H', Same H H' → H' p = some (.tup [.int (farT (lowT (limsOf dl)) (limsOf dl).length : Nat), .ref t]) → H' t = some (.tup (qs.map V.ref)) → Paired (TieL H') qs (lowT (limsOf dl)) → Q (.ref p) H')
def showsD (ls : List Int) : PyData → Bool
  | .tuple [d0, d1] => withinD (farT (lowT ls) ls.length : Nat) (farT (lowT ls) ls.length : Nat) d0 && (isTreeD ls d1 && decide (farT (tiesD d1) ls.length = farT (lowT ls) ls.length))
  | _ => false
theorem showsD_no {ls : List Int} {d : PyData} (h : isTupD d = false) : showsD ls d = false := by cases d <;> first | rfl | cases h
theorem showsD_len {ls : List Int} {ds : List PyData} (h : ds.length ≠ 2) : showsD ls (.tuple ds) = false := by
  unfold showsD
  split
  · rename_i e
    injection e with e
    rw [e] at h
    exact absurd rfl h
  · rfl
def spShowsL (c : Nat → Addr) : Sp := fun vs H Q E => ∃ (l v : V) (a : Addr) (dl d : PyData), vs = [l, v] ∧ Dx a H l dl ∧ Dx a H v d ∧ (limD dl = false → ErrAt (c 0) l H E) ∧ (limD dl = true → treeB (limsOf dl) = false → ErrAt (c 2) l H E) ∧
  (limD dl = true → treeB (limsOf dl) = true → ∀ H', Same H H' → Q (.bl (showsD (limsOf dl) d)) H')
section
variable {P : Program} {w : World} {K : PySem.W.Frag} {mg : Str → Option Value} {base : Heap}
theorem scWayG : FnScope ["many", "ties", "tied"] ["many", "ties"] (defScope sWay) := ⟨rfl, rfl, rfl, by decide +kernel, rfl, by decide +kernel, by decide +kernel⟩
theorem ok_wayG {f fT fL : Addr} {fd fdT fdL : FuncData} {k : Nat} (F : Fun K "way_through" "way_through" sWay f fd) (B : Blt mg)
    (GT : FnOk P w K mg base CX0 k fT fdT ["places", "ties"] spTied) (gT : mg "tied_by" = some (.ref fT)) (kT : PySem.W.keepIn K (.ref fT) = true) (bT : Binds K fdT ["places", "ties"] [])
    (GL : FnOk P w K mg base CX0 k fL fdL ["tied", "place"] spLast) (gL : mg "last_reached" = some (.ref fL)) (kL : PySem.W.keepIn K (.ref fL) = true) (bL : Binds K fdL ["tied", "place"] []) :
    FnOk P w K mg base CX0 (k + 1) f fd ["many", "ties"] spWayG := by
  refine F.ok scWayG (fun vs H Q E h => ?_) (fun cdv A outer s H vs Q E hr h => ?_)
  · obtain ⟨t, n, ts, qs, rfl, _⟩ := h
    rfl
  · obtain ⟨t, n, ts, qs, rfl, n1, n2, fine, et, hq, q⟩ := h
    refine ⟨_, pss_cons (ps_set (i := 2) scWayG.nd rfl (.inl rfl) (pe_call GT hr (by rfl) gT kT bT .nil pass0 (pa_cons (pe_listRg rfl (by rfl) B.list (prg_1 (by rfl) B.range (pv 0))) (pa_cons (pv 1) pa_nil))))
      (pss_one (ps_ret (pe_ix ix_tup (pe_call GL hr (by rfl) gL kL bL .nil pass0 (pa_cons (pv 2) (pa_cons (pe_ix ix_tup (pe_call GL hr (by rfl) gL kL bL .nil pass0 (pa_cons (pv 2) (pa_cons pe_int pa_nil))) pe_int (fun _ _ => rfl)) pa_nil))) pe_int (fun _ _ => rfl)))), ?_⟩
    refine rs_set ?_
    refine ⟨.int (n : Int), rfl, _, rfl, .of_le (by omega) (by omega) (by omega) (by omega), fun p np => ?_⟩
    rw [rg_ns]
    have s1 := same_upd (o := .lst ((nsI n).map V.int)) np
    refine ⟨.ref t, rfl, p, t, nsI n, ts, qs, rfl, fine, upd_same, s1 _ _ et, paired_mono (fun q t e => s1 _ _ e) hq, fun D fa H2 s2 nl nD nf => ?_⟩
    have hnb := fine_nb fine
    have h0 : (0 : Int) ∈ nsI n := mem_ns (i := 0) (by omega)
    have hend : ∀ x ∈ nsI n, endOk ts (2 * n) x = true := fun x hx => by
      unfold endOk
      rw [lev_end hnb hx (by rw [ns_len]; exact Nat.le_refl _)]; rfl
    refine ⟨.ref D, rfl, .ref D, rfl, D, 0, fa, nsI n, ts, 2 * n, rfl, nl, h0, by rw [ns_len]; omega, hnb, hend _ h0, fun q1 H3 s3 e3 => ?_⟩
    have hm := lastR_mem hnb h0 (2 * n)
    refine ⟨q1, _, 1, .int (lastR ts (2 * n) 0).2, rfl, rfl, sqt_of e3, atI_nat (j := 1) rfl, D, (lastR ts (2 * n) 0).2, fa, nsI n, ts, 2 * n, rfl, nl.keep s3, hm, by rw [ns_len]; omega, hnb, hend _ hm, fun q2 H4 s4 e4 => ?_⟩
    exact ⟨q2, _, 0, .int (farT ts n : Nat), rfl, rfl, sqt_of e4, atI_nat (j := 0) rfl, q H4 (((s1.trans s2).trans s3).trans s4)⟩
theorem scTreeFar : FnScope ["limits", "ties"] ["limits", "ties"] (defScope sTreeFar) := ⟨rfl, rfl, rfl, by decide +kernel, rfl, by decide +kernel, by decide +kernel⟩
theorem ok_treefar {f fF fW fI : Addr} {c : Nat → Addr} {fd fdF fdW fdI : FuncData} {k j : Nat} (hj : j + 1 ≤ k) (F : Fun K "tree_farthest" "tree_farthest" sTreeFar f fd) (B : Blt mg)
    (T : XCls K fI (c 1)) (gX : mg "NotTree" = some (.ref (c 1))) (GI : FnOk P w K mg base CX0 j fI fdI ["self", "value"] (spIniX K)) (bI : Binds K fdI ["self", "value"] [])
    (GF : FnOk P w K mg base (L2N.CX P w) k fF fdF ["limits", "value"] (spIsTree (c 0))) (gF : mg "is_tree_for" = some (.ref fF)) (kF : PySem.W.keepIn K (.ref fF) = true) (bF : Binds K fdF ["limits", "value"] [])
    (GW : FnOk P w K mg base CX0 k fW fdW ["many", "ties"] spWayG) (gW : mg "way_through" = some (.ref fW)) (kW : PySem.W.keepIn K (.ref fW) = true) (bW : Binds K fdW ["many", "ties"] []) :
    FnOk P w K mg base (L2N.CX P w) (k + 1) f fd ["limits", "ties"] (spTreeFar c) := by
  refine okN F scTreeFar (fun vs H Q E h => ?_) (fun cdv A outer s H vs Q E hr h => ?_)
  · obtain ⟨l, v, a, dl, d, rfl, _⟩ := h
    rfl
  · obtain ⟨l, v, a, dl, d, rfl, xl, xv, q0, q1, q2⟩ := h
    refine ⟨_, pss_cons (ps_if (pt_not (pt_val (pe_call GF hr (by rfl) gF kF bF .nil passN (pa_cons (pv 0) (pa_cons (pv 1) pa_nil))))) (pss_one (ps_heal T GI (hr.mono hj) bI rfl gX (pv 1))) pss_nil)
      (pss_one (ps_ret (pe_call GW hr (by rfl) gW kW bW .nil pass0 (pa_cons (pe_callB call_len_seq (by rfl) B.len PySem.boot_len (pa_cons (pv 0) pa_nil)) (pa_cons (pv 1) pa_nil))))), ?_⟩
    refine rs_no ?_
    refine ⟨l, rfl, v, rfl, l, v, a, dl, d, rfl, xl, xv, fun hl H1 s1 => ⟨_, rfl, ?_⟩, fun hl dd H1 s1 nd => q0 hl dd H1 s1 nd⟩
    obtain ⟨t, ls, rfl, rfl, ne, e1, L⟩ := limD_ex xl hl
    rw [limsOf_ints] at q1 q2 ⊢
    cases ht : isTreeD ls d with
    | false =>
      show if true = true then _ else _
      rw [if_pos rfl]
      exact ⟨v, rfl, fun dd nd => q1 hl ht dd H1 s1 nd⟩
    | true =>
      show if false = true then _ else _
      rw [if_neg Bool.false_ne_true]
      obtain ⟨tv, qs, ts, rfl, rfl, ev, hq, fine⟩ := isTree_ex xv L ht
      rw [tiesD_ti] at q2
      refine ⟨.ref t, rfl, t, ls.map V.int, rfl, .inr (sqt_of (s1 _ _ e1)), ?_⟩
      rw [List.length_map]
      exact ⟨.ref tv, rfl, tv, ls.length, ts, qs, rfl, L.one, L.most, fine, s1 _ _ ev, paired_mono (fun q t e => s1 _ _ e) hq, fun H2 s2 => q2 hl ht H2 (s1.trans s2)⟩
end
end HI

set_option Elab.async false
set_option linter.all false
set_option maxRecDepth 100000
set_option maxHeartbeats 4000000
namespace HI
open PySem L2 PyProof.Rows Hw
theorem within_ex {lo hi : Int} {d : PyData} (h : withinD lo hi d = true) : ∃ g, d = .int g ∧ lo ≤ g ∧ g ≤ hi := by
  cases d with
  | int g => exact ⟨g, rfl, of_decide_eq_true h⟩
  | _ => cases h
def spRoomE (c : Nat → Addr) : Sp := fun vs H Q E => ∃ (u v : V) (a : Addr) (d e : PyData), vs = [u, v] ∧ Dx a H u d ∧ Dx a H v e ∧ (withinD 0 40 d = false → ErrAt (c 3) u H E) ∧ (withinD 0 40 d = true → withinD 1 200 e = false → ErrAt (c 3) v H E) ∧
  (withinD 0 40 d = true → withinD 1 200 e = true → ∀ (n : Nat) (m : Int), d = .int n → e = .int m → Q (.int (roomV n m)) H)
def oneD : PyData → Bool
  | .int g => decide (g = 1)
  | _ => false
def gtTwoD : PyData → Bool
  | .int g => decide (2 < g)
  | _ => false
def spFloorE (c : Nat → Addr) : Sp := fun vs H Q E => ∃ (u v : V) (a : Addr) (d e : PyData), vs = [u, v] ∧ Dx a H u d ∧ Dx a H v e ∧ (withinD 1 1000000 d = false → ErrAt (c 3) u H E) ∧ (withinD 1 1000000 d = true → withinD 1 200 e = false → ErrAt (c 3) v H E) ∧
  (withinD 1 1000000 d = true → withinD 1 200 e = true → (oneD e && gtTwoD d) = true → ErrAt (c 2) v H E) ∧
  (withinD 1 1000000 d = true → withinD 1 200 e = true → (oneD e && gtTwoD d) = false → ∀ (n m : Int) (r : Nat) H', d = .int n → e = .int m → IsFloor n m r → Same H H' → Q (.int r) H')
section
variable {P : Program} {w : World} {K : PySem.W.Frag} {mg : Str → Option Value} {base : Heap}
end
end HI

set_option Elab.async false
set_option linter.all false
set_option maxRecDepth 100000
set_option maxHeartbeats 4000000
namespace HI
open PySem L2 PyProof.Rows Hw
abbrev sLNear : Stmt := topS 26
abbrev sLFars : Stmt := topS 27
abbrev sLTN : Stmt := topS 29
def spTreeNear : Sp := fun vs H Q _ => ∃ (tl : Addr) (n : Nat) (ts : List Tie) (qs : List Addr), vs = [.int (n : Nat), .ref tl] ∧ n ≤ 200 ∧ FineW (nsI n) ts ∧ H tl = some (.tup (qs.map V.ref)) ∧ Paired (TieL H) qs ts ∧
  ∀ d f H', Same H H' → NearL f H' d (nsI n) (nbr ts) → Q (.ref d) H'
section
variable {P : Program} {w : World} {K : PySem.W.Frag} {mg : Str → Option Value} {base : Heap}
theorem scLNear : FnScope ["places", "ties", "near", "one", "other", "name"] ["places", "ties"] (defScope sLNear) := ⟨rfl, rfl, rfl, by decide +kernel, rfl, by decide +kernel, by decide +kernel⟩
theorem ok_lnear {f : Addr} {fd : FuncData} {k : Nat} (F : Fun K "_law_near" "_law_near" sLNear f fd) (bd : mg "dict" = none) : FnOk P w K mg base CX0 (k + 1) f fd ["places", "ties"] spTied := by
  refine F.ok scLNear (fun vs H Q E h => ?_) (fun cdv A outer s H vs Q E hr h => ?_)
  · obtain ⟨p, tl, ns, ts, qs, rfl, _⟩ := h
    rfl
  · obtain ⟨p, tl, ns, ts, qs, rfl, own, e1, e3, e4, q⟩ := h
    have hu := hu_of hr
    refine ⟨_, pss_cons (ps_set (i := 2) scLNear.nd rfl (.inl rfl) (pe_callTy (call_dictP rfl) (by rfl) bd PyProof.Rows.boot_dict (pa_cons (pe_lc (own := [("name", 5)]) (g := gName 5) (tt := tYes) rfl scLNear.nd (pi_list (pv 0))
        (blkOk_by (N := ["places", "ties", "near", "one", "other", "name"]) (sc := defScope sLNear) (by decide +kernel)) (fun _ _ _ _ _ => pg_name (i := 5) scLNear.nd rfl (Or.inl rfl)) (fun _ _ _ _ _ => pts_nil)
        (fun _ _ _ _ _ => pe_tup (pa_cons (pv 5) (pa_cons (pe_lst pa_nil) pa_nil)))) pa_nil)))
      (pss_cons (ps_for PassesOwn.never rfl (pi_tup (pv 1)) (pg_tup rfl (pgs_cons (pg_name (i := 3) scLNear.nd rfl (Or.inl rfl)) (pgs_cons (pg_name (i := 4) scLNear.nd rfl (Or.inl rfl)) pgs_nil)))
        (pss_cons (ps_expr (pe_bm PySem.F.plainAttrs_list PySem.F.slot_list_append PySem.F.type_list_append mt_append (pe_dget hu (pv 2) (pv 3) (fun _ _ => rfl)) (pa_cons (pv 4) pa_nil)))
        (pss_one (ps_expr (pe_bm PySem.F.plainAttrs_list PySem.F.slot_list_append PySem.F.type_list_append mt_append (pe_dget hu (pv 2) (pv 4) (fun _ _ => rfl)) (pa_cons (pv 3) pa_nil))))))
      (pss_one (ps_ret (pv 2)))), ?_⟩
    have l40 := own.few
    have l1000 := own.tfew
    have hnd := own.nd
    refine rs_set ?_
    refine ⟨.ref p, rfl, p, rfl, ⟨_, sql_of e1⟩, fun D nD => lc_list (xs := ns.map V.int) (fun i H' => ∃ f tp, NearUp H D (ns.take i) f H' ∧ H' D = some (.lst (tp.map V.ref)) ∧ Paired (fun q n => H' q = some (.tup [.int n, .ref (f n)])) tp (ns.take i))
      ⟨fun _ => 0, [], ⟨same_upd nD, (fun _ z => nomatch z), (fun _ z => nomatch z)⟩, upd_same, .nil⟩ (fun i H' _ ⟨f, tp, w, _⟩ => sql_of (w.1 _ _ e1)) ?_ ?_⟩
    · rintro i x H' hx ⟨f, tp, w, eD, hp⟩
      obtain ⟨z, hz, rfl⟩ : ∃ z, ns[i]? = some z ∧ x = .int z := by
        rw [List.getElem?_map] at hx
        cases hh : ns[i]? with
        | none => rw [hh] at hx; cases hx
        | some z => rw [hh] at hx; exact ⟨z, rfl, (Option.some.inj hx).symm⟩
      have hi := (List.getElem?_eq_some_iff.mp hz).1
      have hzt := nodup_take hnd hz
      have et : ns.take (i + 1) = ns.take i ++ [z] := by rw [List.take_succ, hz]; rfl
      have htp : tp.length ≤ 200 := by
        rw [Paired.length hp, List.length_take]; omega
      refine ⟨rfl, r_yes ?_⟩
      refine ⟨.int z, rfl, Nat.zero_le _, fun l nl => ⟨by show 2 ≤ sizeLine; decide, fun q' nq => ?_⟩⟩
      have hl : l ≠ D := fun e => by rw [e, eD] at nl; cases nl
      have w1 := (w.new hzt nl hl).keep (same_upd (o := .tup [.int z, .ref l]) nq)
      have eD1 := (same_upd (o := .lst []) nl) _ _ eD
      have hqD : q' ≠ D := fun e => by rw [e, eD1] at nq; cases nq
      refine ⟨tp.map V.ref, (same_upd nq) _ _ eD1, small1000 (by rw [List.length_map]; omega), fun n => if n = z then l else f n, tp ++ [q'], by rw [et]; exact w1.put nD, by rw [upd_same, List.map_append]; rfl, ?_⟩
      rw [et]
      refine Paired.snoc (paired_in (fun q n hn e => ?_) hp) ?_
      · have ne : n ≠ z := fun e => hzt (by rw [← e]; exact hn)
        dsimp only
        rw [if_neg ne, upd_ne (ne_of e eD (fun z => nomatch z)), upd_ne (ne_of_none ((same_upd nl) _ _ e) nq)]
        exact (same_upd nl) _ _ e
      · dsimp only
        rw [if_pos rfl, upd_ne hqD, upd_same]
    · rintro H' ⟨f, tp, w, eD, hp⟩
      rw [List.length_map, List.take_length] at w hp
      refine ⟨D, tp, ns.map fun n => ((Sum.inl n : Key), V.ref (f n)), rfl, sql_of eD, paired_map (paired_mono (fun q n e => sqt_of e) hp), fun d nd => ?_⟩
      rw [mergeK_new (by rw [List.nil_append, List.map_map]; exact List.Pairwise.map _ (fun a b h e => h (Sum.inl.inj e)) hnd), List.nil_append]
      have w1 := w.keep (same_upd (o := .dK (ns.map fun n => ((Sum.inl n : Key), V.ref (f n)))) nd)
      have hd0 : H d = none := w.1.free nd
      have nl0 := w1.done upd_same
      have s0 := w1.1
      have hf0 : ∀ n ∈ ns, H (f n) = none := fun n hn => (w.2.1 n hn).2.1
      generalize (upd H' d (.dK (ns.map fun n => ((Sum.inl n : Key), V.ref (f n))))) = H1 at nl0 s0 ⊢
      clear w w1 hp eD
      refine rs_tup tl (qs.map V.ref) (fun Q1 q1 => ⟨_, rfl, q1⟩) (fun i σ' H' => ∃ o3 o4, σ' = [some (.ref p), some (.ref tl), some (.ref d), o3, o4, none] ∧ Same H H' ∧ NearL f H' d ns (nbr (ts.take i)))
        ⟨_, _, rfl, s0, nl0⟩ (fun i σ' H' _ ⟨o3, o4, _, sx, _⟩ => sqt_of (sx _ _ e3)) ?_ ?_
      · rintro i x σ2 H2 hx ⟨o3, o4, rfl, sx, nl⟩
        obtain ⟨q', hq', rfl⟩ := Hw.map_get hx
        obtain ⟨t, ht, et⟩ := Hw.paired_get e4 hq'
        obtain ⟨m1, m2, m3⟩ := own.tie t (List.mem_of_getElem? ht)
        refine ⟨q', [.int t.1, .int t.2], rfl, sqt_of (sx _ _ et), rfl, _, [.int t.2], rfl, _, [], rfl, rfl, ?_⟩
        refine near_turn (t := t) (ts := ts.take i) rfl rfl rfl sx nl hf0 m1 m2 (Int.ne_of_lt m3) (by rw [List.length_take]; omega) (fun H3 s3 n3 => ⟨_, _, rfl, s3, by rw [Hw.take_snoc ht]; exact n3⟩)
      · rintro σ2 H2 ⟨o3, o4, rfl, sx, nl⟩
        rw [List.length_map, Paired.length e4, List.take_length] at nl
        exact ⟨.ref d, rfl, q d f H2 sx nl hd0 hf0⟩
theorem scLFars : FnScope ["near", "name", "fars", "level", "later", "here", "other"] ["near", "name"] (defScope sLFars) := ⟨rfl, rfl, rfl, by decide +kernel, rfl, by decide +kernel, by decide +kernel⟩
theorem ok_lfars {f : Addr} {fd : FuncData} {k : Nat} (F : Fun K "_law_fars" "_law_fars" sLFars f fd) : FnOk P w K mg base CX0 (k + 1) f fd ["near", "name"] spFars := by
  refine F.ok scLFars (fun vs H Q E h => ?_) (fun cdv A outer s H vs Q E hr h => ?_)
  · obtain ⟨d, p, f, ns, ts, rfl, _⟩ := h
    rfl
  · obtain ⟨d, p, f, ns, ts, rfl, nl, hp, hl, hnb, q⟩ := h
    have hu := hu_of hr
    have hu64 := hr.units
    refine ⟨_, pss_cons (ps_par (i := 2) (j := 3) rfl scLFars.nd rfl rfl (by decide) rfl rfl (pa_cons (pe_disp (pps_cons (pv 1) pe_int pps_nil) (by rfl) (by rfl) (fun z => by cases z) (by decide)) (pa_cons (pe_lst (pa_cons (pv 1) pa_nil)) pa_nil)) rfl)
      (pss_cons (ps_while PassesOwn.never (pt_cmpR (op_neNilL hr.units0) (pv 3) (pe_lst pa_nil) (nomark _))
        (pss_cons (ps_set (i := 4) scLFars.nd rfl (.inl rfl) (pe_lst pa_nil))
        (pss_cons (ps_for PassesOwn.never rfl (pi_list (pv 3)) (pg_name (i := 5) scLFars.nd rfl (.inl rfl))
          (pss_one (ps_for PassesOwn.never rfl (pi_list (pe_dget hu (pv 0) (pv 5) (fun _ _ => rfl))) (pg_name (i := 6) scLFars.nd rfl (.inl rfl))
            (pss_one (ps_if (pt_cmp (pc_dnotin hu (pv 6) (pv 2)))
              (pss_cons (ps_dput hu (pv 2) (pv 6) (pe_op op_add (pe_dget hu (pv 2) (pv 5) (fun _ _ => rfl)) pe_int) rfl)
              (pss_one (ps_expr (pe_bm PySem.F.plainAttrs_list PySem.F.slot_list_append PySem.F.type_list_append mt_append (pv 4) (pa_cons (pv 6) pa_nil))))) pss_nil)))))
        (pss_one (ps_set (i := 3) scLFars.nd rfl (.inl rfl) (pv 4))))))
      (pss_one (ps_ret (pv 2)))), ?_⟩
    refine rs_par ?_
    intro fd' nfd
    refine ⟨.int p, rfl, upd_same, [(Sum.inl p, .int 0)], rfl, by show 1 ≤ 15; decide, ?_⟩
    have sf : Same H (upd (upd H fd' (.dK [])) fd' (.dK (mergeK [] [((Sum.inl p : Key), V.int 0)]))) := fun b o e => by
      have hb := ne_of_none e nfd
      rw [upd_ne hb, upd_ne hb]; exact e
    have ef : (upd (upd H fd' (.dK [])) fd' (.dK (mergeK [] [((Sum.inl p : Key), V.int 0)]))) fd' = some (.dK (encF [(p, 0)])) := upd_same
    generalize (upd (upd H fd' (.dK [])) fd' (.dK (mergeK [] [((Sum.inl p : Key), V.int 0)]))) = H1 at sf ef ⊢
    refine ⟨.int p, rfl, by show 1 ≤ sizeLine; decide, fun el nel => ⟨_, _, rfl, ?_⟩⟩
    refine bfs_way (fa := f) (sf.trans (same_upd nel)) ((same_upd nel) _ _ ef) upd_same nfd hp hl hnb nl.lst (fun n hn el' bl o6 H' Q s' q' => ⟨.ref d, rfl, .int n, rfl, d, .ref (f n), rfl, (nl.keep s').get hn, q'⟩) (fun el' xs σ' H' Q hσ e hx q' => ?_) (fun far H' σ' hσ b hf s' e => ⟨.ref fd', hσ, q far fd' H' b hf s' e nfd⟩)
    refine ⟨.ref el', hσ, Nat.zero_le _, fun l nl' => ⟨el', l, xs.map V.int, rfl, rfl, sql_of ((same_upd nl') _ _ e), sql_of upd_same, _, rfl, ?_⟩⟩
    have eb : (!(xs.map V.int).isEmpty) = !xs.isEmpty := by cases xs <;> rfl
    show Q (!(xs.map V.int).isEmpty) _
    rw [eb]
    exact q' _ (same_upd nl')
theorem scLTN : FnScope ["many", "ties"] ["many", "ties"] (defScope sLTN) := ⟨rfl, rfl, rfl, by decide +kernel, rfl, by decide +kernel, by decide +kernel⟩
theorem ok_ltn {f fN : Addr} {fd fdN : FuncData} {k : Nat} (F : Fun K "_law_tree_near" "_law_tree_near" sLTN f fd) (B : Blt mg)
    (GN : FnOk P w K mg base CX0 k fN fdN ["places", "ties"] spTied) (gN : mg "_law_near" = some (.ref fN)) (kN : PySem.W.keepIn K (.ref fN) = true) (bN : Binds K fdN ["places", "ties"] []) : FnOk P w K mg base CX0 (k + 1) f fd ["many", "ties"] spTreeNear := by
  refine F.ok scLTN (fun vs H Q E h => ?_) (fun cdv A outer s H vs Q E hr h => ?_)
  · obtain ⟨tl, n, ts, qs, rfl, _⟩ := h
    rfl
  · obtain ⟨tl, n, ts, qs, rfl, n2, fine, et, hq, q⟩ := h
    refine ⟨_, pss_one (ps_ret (pe_call GN hr (by rfl) gN kN bN .nil pass0 (pa_cons (pe_listRg rfl (by rfl) B.list (prg_1 (by rfl) B.range (pv 0))) (pa_cons (pv 1) pa_nil)))), ?_⟩
    refine r_ret ?_
    refine ⟨.int (n : Int), rfl, _, rfl, .of_le (by omega) (by omega) (by omega) (by omega), fun p np => ?_⟩
    rw [rg_ns]
    have s1 := same_upd (o := .lst ((nsI n).map V.int)) np
    exact ⟨.ref tl, rfl, p, tl, nsI n, ts, qs, rfl, fine, upd_same, s1 _ _ et, paired_mono (fun q t e => s1 _ _ e) hq, fun D fa H2 s2 nl nD nf => q D fa H2 (s1.trans s2) nl⟩
end
end HI

set_option Elab.async false
set_option linter.all false
set_option maxRecDepth 100000
set_option maxHeartbeats 4000000
namespace HI
open PySem L2 PyProof.Rows Hw
abbrev sLTree : Stmt := topS 30
def spLTree : Sp := fun vs H Q _ => ∃ (t : Addr) (v : V) (a : Addr) (ls : List Int) (d : PyData), vs = [.ref t, v] ∧ H t = some (.tup (ls.map V.int)) ∧ Lims ls ∧ Dx a H v d ∧ ∀ H', Same H H' → Q (.bl (isTreeD ls d)) H'
theorem all_take_no {f : PyData → Bool} {ds : List PyData} {i : Nat} {d : PyData} (h : ds[i]? = some d) (hf : f d = false) : ds.all f = false := by
  rw [List.all_eq_false]
  exact ⟨d, List.mem_of_getElem? h, by rw [hf]; exact Bool.false_ne_true⟩
section
variable {P : Program} {w : World} {K : PySem.W.Frag} {mg : Str → Option Value} {base : Heap}
abbrev nLT : List Str := ["limits", "value", "many", "tie", "near", "place", "one", "other", "at"]
theorem scLTree : FnScope nLT ["limits", "value"] (defScope sLTree) := ⟨rfl, rfl, rfl, by decide +kernel, rfl, by decide +kernel, by decide +kernel⟩
theorem ok_ltree {f fI fN fF : Addr} {fd fdI fdN fdF : FuncData} {k : Nat} (F : Fun K "_law_is_tree" "_law_is_tree" sLTree f fd) (B : Blt mg) (bi : mg "isinstance" = none) (bt : mg "tuple" = none) (ba : mg "all" = none) (bz : mg "zip" = none)
    (GI : FnOk P w K mg base CX0 k fI fdI ["value", "least", "most"] spWithinA) (gI : mg "_law_is_int" = some (.ref fI)) (kI : PySem.W.keepIn K (.ref fI) = true) (bI : Binds K fdI ["value", "least", "most"] [])
    (GN : FnOk P w K mg base CX0 k fN fdN ["many", "ties"] spTreeNear) (gN : mg "_law_tree_near" = some (.ref fN)) (kN : PySem.W.keepIn K (.ref fN) = true) (bN : Binds K fdN ["many", "ties"] [])
    (GF : FnOk P w K mg base CX0 k fF fdF ["near", "name"] spFars) (gF : mg "_law_fars" = some (.ref fF)) (kF : PySem.W.keepIn K (.ref fF) = true) (bF : Binds K fdF ["near", "name"] []) :
    FnOk P w K mg base CX0 (k + 1) f fd ["limits", "value"] spLTree := by
  refine F.ok scLTree (fun vs H Q E h => ?_) (fun cdv A outer s H vs Q E hr h => ?_)
  · obtain ⟨t, v, a, ls, d, rfl, _⟩ := h
    rfl
  · obtain ⟨t, v, a, ls, d, rfl, e1, L, xv, q⟩ := h
    have hu := hu_of hr
    have hu0 := hr.units0
    have l1 := L.one
    have l2 := L.most
    refine ⟨_, pss_cons (ps_set (i := 2) scLTree.nd rfl (.inr rfl) (pe_callB call_len_seq (by rfl) B.len PySem.boot_len (pa_cons (pv 0) pa_nil)))
      (pss_cons (ps_if (PW.pt (pw_or (pt_not (pt_val (pe_callB call_isi (by rfl) bi PyProof.Rows.boot_isinstance (pa_cons (pv 1) (pa_cons (pe_bltn (v := .ty "tuple") (by rfl) bt (by decide +kernel) rfl) pa_nil)))))
        (pw_or1 (pt_cmpR op_ne (pe_callB call_len_seq (by rfl) B.len PySem.boot_len (pa_cons (pv 1) pa_nil)) (pe_op op_sub (pv 2) pe_int) (nomark _))))) (pss_one (ps_ret pe_bl)) pss_nil)
      (pss_cons (ps_for PassesOwn.never rfl (pi_tup (pv 1)) (pg_name (i := 3) scLTree.nd rfl (.inl rfl))
        (pss_cons (ps_if (PW.pt (pw_or (pt_not (pt_val (pe_callB call_isi (by rfl) bi PyProof.Rows.boot_isinstance (pa_cons (pv 3) (pa_cons (pe_bltn (v := .ty "tuple") (by rfl) bt (by decide +kernel) rfl) pa_nil)))))
          (pw_or (pt_cmpR op_ne (pe_callB call_len_seq (by rfl) B.len PySem.boot_len (pa_cons (pv 3) pa_nil)) pe_int (nomark _))
          (pw_or1 (pt_not (pt_val (pe_callB (cr_all rfl) (by rfl) ba PyProof.Rows.boot_all (pa_cons (pe_lc (own := [("place", 5)]) (g := gName 5) (tt := tYes) rfl scLTree.nd (pi_tup (pv 3)) (blkOk_by (N := nLT) (sc := defScope sLTree) (by decide +kernel))
            (fun _ _ _ _ _ => pg_name (i := 5) scLTree.nd rfl (Or.inl rfl)) (fun _ _ _ _ _ => pts_nil) (fun _ _ _ _ _ => pe_call GI hr (by rfl) gI kI bI .nil pass0 (pa_cons (pv 5) (pa_cons pe_int (pa_cons (pe_op op_sub (pv 2) pe_int) pa_nil))))) pa_nil)))))))) (pss_one (ps_ret pe_bl)) pss_nil)
        (pss_one (ps_if (pt_not (pt_cmpR op_lt (pe_ix ix_tup (pv 3) pe_int (fun _ _ => rfl)) (pe_ix ix_tup (pv 3) pe_int (fun _ _ => rfl)) (nomark _))) (pss_one (ps_ret pe_bl)) pss_nil))))
      (pss_cons (ps_if (pt_not (pt_val (pe_callB (cr_all rfl) (by rfl) ba PyProof.Rows.boot_all (pa_cons (pe_lc (own := [("one", 6), ("other", 7)]) (g := gTup _ 2 (gCons (gName 6) (gCons (gName 7) gNil))) (tt := tYes) (te := tOp (rLtT K) (tVar 6) (tVar 7)) rfl scLTree.nd
        (RZ.pi_zipA (by rfl) bz (pa_cons (pv 1) (pa_cons (pe_slice sl_tupA (pv 1) (po_some pe_int) po_none) pa_nil))) (blkOk_by (N := nLT) (sc := defScope sLTree) (by decide +kernel))
        (fun _ _ _ _ _ => pg_tup rfl (pgs_cons (pg_name (i := 6) scLTree.nd rfl (Or.inl rfl)) (pgs_cons (pg_name (i := 7) scLTree.nd rfl (Or.inl rfl)) pgs_nil))) (fun _ _ _ _ _ => pts_nil) (fun _ _ _ _ _ => pe_cmpR (op_ltT hu0) (pv 6) (pv 7) (nomark _))) pa_nil)))) (pss_one (ps_ret pe_bl)) pss_nil)
      (pss_cons (ps_set (i := 4) scLTree.nd rfl (.inr rfl) (pe_call GN hr (by rfl) gN kN bN .nil pass0 (pa_cons (pv 2) (pa_cons (pv 1) pa_nil))))
      (pss_one (ps_ret (pe_and (pe_callB (cr_all rfl) (by rfl) ba PyProof.Rows.boot_all (pa_cons (pe_lc (own := [("at", 8)]) (g := gName 8) (tt := tYes) (te := tOp (rI0 fun i j => .bl (decide (i ≤ j))) (tCB (rLenS K) (tCons (tDGet (tVar 4) (tVar 8)) tNil)) (tOp (rIxT K) (tVar 0) (tVar 8))) rfl scLTree.nd (pi_range1 (by rfl) B.range (pa_cons (pv 2) pa_nil))
          (blkOk_by (N := nLT) (sc := defScope sLTree) (by decide +kernel)) (fun _ _ _ _ _ => pg_name (i := 8) scLTree.nd rfl (Or.inl rfl)) (fun _ _ _ _ _ => pts_nil)
          (fun _ _ _ _ _ => pe_cmpR op_le (pe_callB call_lenS (by rfl) B.len PySem.boot_len (pa_cons (pe_dget hu (pv 4) (pv 8) (fun _ _ => rfl)) pa_nil)) (pe_ix ix_tup (pv 0) (pv 8) (fun _ _ => rfl)) (nomark _))) pa_nil))
        (pe_one (pe_cmpR op_eq (pe_callB call_lenD (by rfl) B.len PySem.boot_len (pa_cons (pe_call GF hr (by rfl) gF kF bF .nil pass0 (pa_cons (pv 4) (pa_cons pe_int pa_nil))) pa_nil)) (pv 2) (nomark _)))))))))), ?_⟩
    refine rs_set ?_
    refine ⟨.ref t, rfl, t, ls.map V.int, rfl, .inr (sqt_of e1), ?_⟩
    rw [List.length_map]
    refine rs_no ?_
    refine ⟨v, rfl, v, .ty "tuple", .type (tyD d), .type "tuple", isTupD d, rfl, .ty _, xv.tyx, kit_tuple d, isTupD d, rfl, ?_⟩
    cases hT : isTupD d with
    | false =>
      show if true = true then _ else _
      rw [if_pos rfl]
      rw [isTreeD_no hT] at q
      exact q H (Same.refl _)
    | true =>
      obtain ⟨ds, rfl⟩ := isTup_ex hT
      obtain ⟨tv, xs, rfl, ev, nv, xa⟩ := dx_tup xv
      have hlen := xa.length
      rw [isTreeD_tup] at q
      show if false = true then _ else _
      rw [if_neg Bool.false_ne_true]
      refine ⟨.ref tv, rfl, tv, xs, rfl, .inr (sqt_of ev), .int (ls.length : Nat), rfl, _, _, rfl, rfl, rfl, _, rfl, ?_⟩
      rw [hlen]
      by_cases h2 : ds.length + 1 = ls.length
      · rw [decide_eq_true h2, Bool.true_and] at q
        rw [decide_eq_true (show V.int ((ds.length : Nat) : Int) = V.int ((ls.length : Nat) - 1) from congrArg V.int (by omega))]
        show if false = true then _ else _
        rw [if_neg Bool.false_ne_true]
        refine rs_tup tv xs (fun Q1 q1 => ⟨_, rfl, q1⟩) (fun i σ' H' => (∃ o3 o5, σ' = [some (.ref t), some (.ref tv), some (.int (ls.length : Nat)), o3, none, o5, none, none, none]) ∧ Same H H' ∧ (ds.take i).all (tieD ls.length) = true)
          ⟨⟨_, _, rfl⟩, Same.refl _, rfl⟩ (fun i σ' H' _ h => sqt_of (h.2.1 _ _ ev)) ?_ ?_
        · rintro i x σ' H1 hx ⟨⟨o3, o5, rfl⟩, s1, hall⟩
          obtain ⟨d', hd', xd⟩ := dx_get xa hx
          have xd1 := Dx.keep (.of s1) _ _ xd
          have stop : ∀ H2, Same H H2 → tieD ls.length d' = false → Q (.bl false) H2 := fun H2 s2 hf => by
            rw [all_take_no hd' hf] at q
            exact q H2 s2
          refine r_gname ?_
          refine rs_no ?_
          refine ⟨x, rfl, x, .ty "tuple", .type (tyD d'), .type "tuple", isTupD d', rfl, .ty _, xd1.tyx, kit_tuple d', isTupD d', rfl, ?_⟩
          cases hT' : isTupD d' with
          | false =>
            show if true = true then _ else _
            rw [if_pos rfl]
            exact stop H1 s1 (by cases d' <;> first | rfl | cases hT')
          | true =>
            obtain ⟨es, rfl⟩ := isTup_ex hT'
            obtain ⟨te, ys, rfl, ee, ne, ya⟩ := dx_tup xd1
            have hlen' := ya.length
            show if false = true then _ else _
            rw [if_neg Bool.false_ne_true]
            refine ⟨.ref te, rfl, te, ys, rfl, .inr (sqt_of ee), rfl, _, rfl, ?_⟩
            rw [hlen']
            by_cases h3 : es.length = 2
            · rw [decide_eq_true (show V.int ((es.length : Nat) : Int) = V.int 2 by rw [h3]; rfl)]
              show if false = true then _ else _
              rw [if_neg Bool.false_ne_true]
              refine ⟨.ref te, rfl, te, rfl, ⟨_, sqt_of ee⟩, fun D hD => lc_tup (xs := ys) (fun i H' => Same H1 H' ∧ H' D = some (.lst (((es.take i).map (withinD 0 ((ls.length : Int) - 1))).map V.bl))) ⟨same_upd hD, upd_same⟩ (fun i H' _ h => sqt_of (h.1 _ _ ee)) ?_ ?_⟩
              · rintro i x H' hx ⟨sx, eD⟩
                obtain ⟨d2, hd2, xd2⟩ := dx_get ya hx
                refine ⟨rfl, r_yes ?_⟩
                refine ⟨x, rfl, .int (ls.length : Nat), rfl, _, _, rfl, rfl, x, a, d2, 0, (ls.length : Int) - 1, rfl, Dx.keep (.of sx) _ _ xd2, _, eD, smallM2 (by rw [List.length_map, List.length_map, List.length_take]; omega), ?_, ?_⟩
                · intro b o e
                  rw [upd_ne (ne_of_none e hD)]
                  exact sx _ _ e
                · rw [upd_same, Hw.take_snoc hd2, List.map_append, List.map_append]; rfl
              · rintro H2 ⟨s2, eD⟩
                rw [hlen', List.take_length] at eD
                refine ⟨D, _, rfl, sql_of eD, _, rfl, ?_⟩
                match es, h3 with
                | [d1, d2], _ =>
                  rw [tieD_two] at stop
                  show if (!(withinD 0 ((ls.length : Int) - 1) d1 && (withinD 0 ((ls.length : Int) - 1) d2 && true))) = true then _ else _
                  rw [Bool.and_true]
                  cases h4 : (withinD 0 ((ls.length : Int) - 1) d1 && withinD 0 ((ls.length : Int) - 1) d2) with
                  | false =>
                    show if true = true then _ else _
                    rw [if_pos rfl]
                    exact stop H2 (s1.trans s2) (by rw [h4]; rfl)
                  | true =>
                    show if false = true then _ else _
                    rw [if_neg Bool.false_ne_true]
                    have h4' := h4
                    rw [Bool.and_eq_true] at h4'
                    obtain ⟨x, rfl⟩ : ∃ g, d1 = .int g := by
                      cases d1 with
                      | int g => exact ⟨g, rfl⟩
                      | _ => cases h4'.1
                    obtain ⟨y, rfl⟩ : ∃ g, d2 = .int g := by
                      cases d2 with
                      | int g => exact ⟨g, rfl⟩
                      | _ => cases h4'.2
                    cases ya with
                    | cons x1 ya =>
                      cases ya with
                      | cons x2 ya =>
                        cases ya
                        obtain rfl := x1.int
                        obtain rfl := x2.int
                        refine ⟨.ref te, rfl, te, _, 0, .int x, rfl, rfl, sqt_of (s2 _ _ ee), atI_nat (j := 0) rfl, .ref te, rfl, te, _, 1, .int y, rfl, rfl, sqt_of (s2 _ _ ee), atI_nat (j := 1) rfl, _, _, rfl, rfl, _, rfl, ?_⟩
                        by_cases h5 : x < y
                        · rw [decide_eq_true h5]
                          show if false = true then _ else _
                          rw [if_neg Bool.false_ne_true]
                          refine ⟨⟨_, _, rfl⟩, s1.trans s2, ?_⟩
                          rw [Hw.take_snoc hd', List.all_append, hall]
                          show (true && (tieD ls.length (.tuple [.int x, .int y]) && true)) = true
                          rw [tieD_two, h4]
                          show (true && ((true && decide (x < y)) && true)) = true
                          rw [decide_eq_true h5]; rfl
                        · rw [decide_eq_false h5]
                          show if true = true then _ else _
                          rw [if_pos rfl]
                          exact stop H2 (s1.trans s2) (by rw [h4]; show (true && decide (x < y)) = false; rw [decide_eq_false h5]; rfl)
            · rw [decide_eq_false (show ¬ V.int ((es.length : Nat) : Int) = V.int 2 from fun e => h3 (by injection e with e; omega))]
              show if true = true then _ else _
              rw [if_pos rfl]
              exact stop H1 s1 (tieD_len h3)
        · rintro σ' H2 ⟨⟨o3, o5, rfl⟩, s2, hall⟩
          rw [hlen, List.take_length] at hall
          rw [hall, Bool.true_and] at q
          obtain ⟨qs, ts, rfl, rfl, hq0, ht⟩ := ties_ex xa hall
          rw [tiesOf_ti] at q
          rw [List.length_map] at h2
          have hq : Paired (TieL H2) qs ts := paired_mono (fun q t e => s2 _ _ e) hq0
          have ev2 := s2 _ _ ev
          have e12 := s2 _ _ e1
          have hl : ts.length ≤ 1000 := by omega
          have fine := fine_of (n := ls.length) (ts := ts) l2 hl ht
          have e0 := e1
          refine rs_no ?_
          have walk_len : (((ts.zip (ts.drop 1)).take (min (qs.map V.ref).length ((qs.map V.ref).drop 1).length)).map fun p => ltT p.1 p.2) = (ts.zip (ts.drop 1)).map fun p => ltT p.1 p.2 := by
            rw [List.take_of_length_le]
            rw [List.length_zip, List.length_drop, List.length_drop, List.length_map, Paired.length hq]
            exact Nat.le_refl _
          have hp : SqT K H2 tv (qs.map V.ref) := sqt_of ev2
          refine ⟨.ref tv, rfl, .ref tv, rfl, 1, rfl, tv, qs.map V.ref, rfl, hp, fun hw => ?_, fun hw b nb => ?_⟩
          · obtain ⟨H1, eH1⟩ : ∃ H1, H1 = H2 := ⟨H2, rfl⟩
            have s1 : Same H2 H1 := by rw [eH1]; exact Same.refl H2
            have hb : SqT K H1 tv ((qs.map V.ref).drop 1) := by
              have e0 : (qs.map V.ref).length = 0 := by
                have := hw.1
                rw [show HT.sIx (qs.map V.ref).length 0 (some 1) = min 1 (qs.map V.ref).length from HT.sIx_nat _ 0 1] at this
                omega
              rw [List.length_eq_zero_iff.mp e0] at hp ⊢
              rw [eH1]; exact hp
            rw [← eH1]
            refine ⟨tv, _, qs.map V.ref, (qs.map V.ref).drop 1, rfl, .inr ⟨sqT_same hp s1, hb, fun D hD => lc_it (walk_zipT rfl) (fun i H' => Same H2 H' ∧ Same H1 H' ∧ H' D = some (.lst ((((ts.zip (ts.drop 1)).take i).map fun p => ltT p.1 p.2).map V.bl))) ⟨s1.trans (same_upd hD), same_upd hD, upd_same⟩ (fun i H' _ h => ⟨sqT_same hp h.1, sqT_same hb h.2.1⟩) ?_ ?_⟩⟩
            · rintro i x H' H'' hi ⟨sx, sx1, eD⟩ ⟨T, x1, x2, rfl, nT, rfl, g1, g2⟩
              obtain ⟨q1, h1, rfl⟩ := Hw.map_get g1
              have g2 : ((qs.map V.ref).drop 1)[i]? = some x2 := g2
              rw [List.getElem?_drop] at g2
              obtain ⟨q2, h2, rfl⟩ := Hw.map_get g2
              obtain ⟨t1, k1, f1⟩ := Hw.paired_get hq h1
              obtain ⟨t2, k2, f2⟩ := Hw.paired_get hq h2
              refine ⟨T, [.ref q1, .ref q2], rfl, sqt_of upd_same, rfl, _, [.ref q2], rfl, _, [], rfl, rfl, rfl, r_yes ?_⟩
              have hz := zip_at k1 k2
              refine ⟨.ref q1, rfl, .ref q2, rfl, q1, q2, t1, t2, rfl, rfl, sqt_of ((same_upd nT) _ _ (sx _ _ f1)), sqt_of ((same_upd nT) _ _ (sx _ _ f2)), _, (same_upd nT) _ _ eD, smallM2 (by rw [List.length_map, List.length_map, List.length_take, List.length_zip]; omega), ?_, ?_, ?_⟩
              · intro b o e
                rw [upd_ne (ne_of_none (s1 _ _ e) hD)]
                exact (same_upd nT) _ _ (sx _ _ e)
              · intro b o e
                rw [upd_ne (ne_of_none e hD)]
                exact (same_upd nT) _ _ (sx1 _ _ e)
              · rw [upd_same, Hw.take_snoc hz, List.map_append, List.map_append]; rfl
            · rintro H' ⟨sx, sx1, eD⟩
              rw [walk_len] at eD
              refine ⟨D, _, rfl, sql_of eD, _, rfl, ?_⟩
              have e : ((ts.zip (ts.drop 1)).map fun p => ltT p.1 p.2).all id = ascB ts := by unfold ascB; rw [List.all_map]; rfl
              rw [e]
              have s02 := s2.trans sx
              cases h6 : ascB ts with
              | false =>
                rw [h6] at q
                show if true = true then _ else _
                rw [if_pos rfl]
                exact q H' s02
              | true =>
                rw [h6, Bool.true_and] at q
                show if false = true then _ else _
                rw [if_neg Bool.false_ne_true]
                refine rs_set ?_
                refine ⟨.int (ls.length : Nat), rfl, .ref tv, rfl, tv, ls.length, ts, qs, rfl, l2, fine, sx _ _ ev2, paired_mono (fun q t e => sx _ _ e) hq, fun Dn fa H4 s4 nl => ?_⟩
                have s04 := s02.trans s4
                have e14 := s04 _ _ e0
                have hnb := fine_nb fine
                have h0 : (0 : Int) ∈ nsI ls.length := mem_ns (i := 0) (by omega)
                clear eD sx sx1
                refine ⟨.int (ls.length : Nat), rfl, _, rfl, by omega, by omega, fun D2 nD2 => ?_⟩
                refine L2.lc_range (lo := 0) (fun i H' => Same H4 H' ∧ H' D2 = some (.lst (((List.range i).map fun i => decide (((nbr ts (i : Nat)).length : Int) ≤ ls.getD i 0)).map V.bl))) ⟨same_upd nD2, upd_same⟩ ?_ ?_
                · rintro i H' hi ⟨sx, eD2⟩
                  have hi' : i < ls.length := by omega
                  have hin : ((i : Nat) : Int) ∈ nsI ls.length := mem_ns hi'
                  have nlx := nl.keep sx
                  refine ⟨rfl, r_yes ?_⟩
                  refine ⟨.ref Dn, rfl, .int (0 + (i : Int)), rfl, Dn, .ref (fa i), rfl, ?_, fa i, _, rfl, .inl (sql_of (nlx.lst _ hin)), .ref t, rfl, .int (0 + (i : Int)), rfl, t, ls.map V.int, 0 + (i : Int), .int (ls.getD i 0), rfl, rfl, sqt_of (sx _ _ e14), ?_, _, _, rfl, rfl, ?_⟩
                  · rw [Int.zero_add]
                    exact nlx.get hin
                  · rw [Int.zero_add]
                    exact atI_nat (by rw [List.getElem?_map, List.getElem?_eq_getElem hi']; simp [List.getD, List.getElem?_eq_getElem hi'])
                  refine ⟨_, eD2, smallM2 (by rw [List.length_map, List.length_map, List.length_range]; omega), fun b o e => ?_, ?_⟩
                  · rw [upd_ne (ne_of_none e nD2)]; exact sx _ _ e
                  · rw [upd_same, List.range_succ, List.map_append, List.map_append, List.length_map]; rfl
                · rintro H5 ⟨s5, eD2⟩
                  rw [Int.toNat_natCast] at eD2
                  refine ⟨D2, _, rfl, sql_of eD2, _, rfl, ?_⟩
                  rw [List.all_map]
                  show if degB ls ts = true then _ else _
                  unfold treeT at q
                  cases h7 : degB ls ts with
                  | false =>
                    rw [h7, Bool.and_false] at q
                    show if false = true then _ else _
                    rw [if_neg Bool.false_ne_true]
                    exact q H5 (s04.trans s5)
                  | true =>
                    rw [h7, Bool.and_true] at q
                    show if true = true then _ else _
                    rw [if_pos rfl]
                    refine ⟨.ref Dn, rfl, Dn, 0, fa, nsI ls.length, ts, rfl, nl.keep s5, h0, by rw [ns_len]; omega, hnb, fun far fd' H6 hb hf s6 e6 n6 => ?_⟩
                    have efar : far = reachN ts ls.length 0 := hb.uniq (reach_bfs hnb h0 (by rw [ns_len]; exact Nat.le_refl _))
                    refine ⟨fd', encF far, rfl, e6, .int (ls.length : Nat), rfl, rfl, ?_⟩
                    have lf : (encF far).length = far.length := by unfold encF; rw [List.length_map]
                    rw [lf, efar]
                    have e9 : decide (V.int (((reachN ts ls.length 0).length : Nat) : Int) = V.int ((ls.length : Nat) : Int)) = decide ((reachN ts ls.length 0).length = ls.length) := by
                      by_cases h : (reachN ts ls.length 0).length = ls.length
                      · rw [h]; simp
                      · rw [decide_eq_false h, decide_eq_false]
                        intro e
                        injection e with e
                        exact h (by omega)
                    rw [e9]
                    exact q H6 ((s04.trans s5).trans s6)
          · have s1 : Same H2 (upd H2 b (.tup (cutV (qs.map V.ref) (some 1) none))) := same_upd nb
            have hb : SqT K (upd H2 b (.tup (cutV (qs.map V.ref) (some 1) none))) b ((qs.map V.ref).drop 1) := by
              rw [cut1]
              exact sqt_of upd_same
            generalize (upd H2 b (.tup (cutV (qs.map V.ref) (some 1) none))) = H1 at s1 hb ⊢
            refine ⟨tv, _, qs.map V.ref, (qs.map V.ref).drop 1, rfl, .inr ⟨sqT_same hp s1, hb, fun D hD => lc_it (walk_zipT rfl) (fun i H' => Same H2 H' ∧ Same H1 H' ∧ H' D = some (.lst ((((ts.zip (ts.drop 1)).take i).map fun p => ltT p.1 p.2).map V.bl))) ⟨s1.trans (same_upd hD), same_upd hD, upd_same⟩ (fun i H' _ h => ⟨sqT_same hp h.1, sqT_same hb h.2.1⟩) ?_ ?_⟩⟩
            · rintro i x H' H'' hi ⟨sx, sx1, eD⟩ ⟨T, x1, x2, rfl, nT, rfl, g1, g2⟩
              obtain ⟨q1, h1, rfl⟩ := Hw.map_get g1
              have g2 : ((qs.map V.ref).drop 1)[i]? = some x2 := g2
              rw [List.getElem?_drop] at g2
              obtain ⟨q2, h2, rfl⟩ := Hw.map_get g2
              obtain ⟨t1, k1, f1⟩ := Hw.paired_get hq h1
              obtain ⟨t2, k2, f2⟩ := Hw.paired_get hq h2
              refine ⟨T, [.ref q1, .ref q2], rfl, sqt_of upd_same, rfl, _, [.ref q2], rfl, _, [], rfl, rfl, rfl, r_yes ?_⟩
              have hz := zip_at k1 k2
              refine ⟨.ref q1, rfl, .ref q2, rfl, q1, q2, t1, t2, rfl, rfl, sqt_of ((same_upd nT) _ _ (sx _ _ f1)), sqt_of ((same_upd nT) _ _ (sx _ _ f2)), _, (same_upd nT) _ _ eD, smallM2 (by rw [List.length_map, List.length_map, List.length_take, List.length_zip]; omega), ?_, ?_, ?_⟩
              · intro b o e
                rw [upd_ne (ne_of_none (s1 _ _ e) hD)]
                exact (same_upd nT) _ _ (sx _ _ e)
              · intro b o e
                rw [upd_ne (ne_of_none e hD)]
                exact (same_upd nT) _ _ (sx1 _ _ e)
              · rw [upd_same, Hw.take_snoc hz, List.map_append, List.map_append]; rfl
            · rintro H' ⟨sx, sx1, eD⟩
              rw [walk_len] at eD
              refine ⟨D, _, rfl, sql_of eD, _, rfl, ?_⟩
              have e : ((ts.zip (ts.drop 1)).map fun p => ltT p.1 p.2).all id = ascB ts := by unfold ascB; rw [List.all_map]; rfl
              rw [e]
              have s02 := s2.trans sx
              cases h6 : ascB ts with
              | false =>
                rw [h6] at q
                show if true = true then _ else _
                rw [if_pos rfl]
                exact q H' s02
              | true =>
                rw [h6, Bool.true_and] at q
                show if false = true then _ else _
                rw [if_neg Bool.false_ne_true]
                refine rs_set ?_
                refine ⟨.int (ls.length : Nat), rfl, .ref tv, rfl, tv, ls.length, ts, qs, rfl, l2, fine, sx _ _ ev2, paired_mono (fun q t e => sx _ _ e) hq, fun Dn fa H4 s4 nl => ?_⟩
                have s04 := s02.trans s4
                have e14 := s04 _ _ e0
                have hnb := fine_nb fine
                have h0 : (0 : Int) ∈ nsI ls.length := mem_ns (i := 0) (by omega)
                clear eD sx sx1
                refine ⟨.int (ls.length : Nat), rfl, _, rfl, by omega, by omega, fun D2 nD2 => ?_⟩
                refine L2.lc_range (lo := 0) (fun i H' => Same H4 H' ∧ H' D2 = some (.lst (((List.range i).map fun i => decide (((nbr ts (i : Nat)).length : Int) ≤ ls.getD i 0)).map V.bl))) ⟨same_upd nD2, upd_same⟩ ?_ ?_
                · rintro i H' hi ⟨sx, eD2⟩
                  have hi' : i < ls.length := by omega
                  have hin : ((i : Nat) : Int) ∈ nsI ls.length := mem_ns hi'
                  have nlx := nl.keep sx
                  refine ⟨rfl, r_yes ?_⟩
                  refine ⟨.ref Dn, rfl, .int (0 + (i : Int)), rfl, Dn, .ref (fa i), rfl, ?_, fa i, _, rfl, .inl (sql_of (nlx.lst _ hin)), .ref t, rfl, .int (0 + (i : Int)), rfl, t, ls.map V.int, 0 + (i : Int), .int (ls.getD i 0), rfl, rfl, sqt_of (sx _ _ e14), ?_, _, _, rfl, rfl, ?_⟩
                  · rw [Int.zero_add]
                    exact nlx.get hin
                  · rw [Int.zero_add]
                    exact atI_nat (by rw [List.getElem?_map, List.getElem?_eq_getElem hi']; simp [List.getD, List.getElem?_eq_getElem hi'])
                  refine ⟨_, eD2, smallM2 (by rw [List.length_map, List.length_map, List.length_range]; omega), fun b o e => ?_, ?_⟩
                  · rw [upd_ne (ne_of_none e nD2)]; exact sx _ _ e
                  · rw [upd_same, List.range_succ, List.map_append, List.map_append, List.length_map]; rfl
                · rintro H5 ⟨s5, eD2⟩
                  rw [Int.toNat_natCast] at eD2
                  refine ⟨D2, _, rfl, sql_of eD2, _, rfl, ?_⟩
                  rw [List.all_map]
                  show if degB ls ts = true then _ else _
                  unfold treeT at q
                  cases h7 : degB ls ts with
                  | false =>
                    rw [h7, Bool.and_false] at q
                    show if false = true then _ else _
                    rw [if_neg Bool.false_ne_true]
                    exact q H5 (s04.trans s5)
                  | true =>
                    rw [h7, Bool.and_true] at q
                    show if true = true then _ else _
                    rw [if_pos rfl]
                    refine ⟨.ref Dn, rfl, Dn, 0, fa, nsI ls.length, ts, rfl, nl.keep s5, h0, by rw [ns_len]; omega, hnb, fun far fd' H6 hb hf s6 e6 n6 => ?_⟩
                    have efar : far = reachN ts ls.length 0 := hb.uniq (reach_bfs hnb h0 (by rw [ns_len]; exact Nat.le_refl _))
                    refine ⟨fd', encF far, rfl, e6, .int (ls.length : Nat), rfl, rfl, ?_⟩
                    have lf : (encF far).length = far.length := by unfold encF; rw [List.length_map]
                    rw [lf, efar]
                    have e9 : decide (V.int (((reachN ts ls.length 0).length : Nat) : Int) = V.int ((ls.length : Nat) : Int)) = decide ((reachN ts ls.length 0).length = ls.length) := by
                      by_cases h : (reachN ts ls.length 0).length = ls.length
                      · rw [h]; simp
                      · rw [decide_eq_false h, decide_eq_false]
                        intro e
                        injection e with e
                        exact h (by omega)
                    rw [e9]
                    exact q H6 ((s04.trans s5).trans s6)
      · rw [decide_eq_false h2] at q
        rw [decide_eq_false (show ¬ V.int ((ds.length : Nat) : Int) = V.int ((ls.length : Nat) - 1) from fun e => h2 (by injection e with e; omega))]
        show if true = true then _ else _
        rw [if_pos rfl]
        exact q H (Same.refl _)
end
end HI

set_option Elab.async false
set_option linter.all false
set_option maxRecDepth 100000
set_option maxHeartbeats 4000000
namespace HI
open PySem L2 PyProof.Rows Hw
/-! that the levels tell the least ways -/
def Reach (nb : Int → List Int) (p : Int) : Nat → Int → Prop
  | 0, y => y = p
  | n + 1, y => ∃ c, Reach nb p n c ∧ y ∈ nb c
theorem Reach.cons {nb : Int → List Int} (hs : ∀ a b, b ∈ nb a → a ∈ nb b) {p q : Int} (h : q ∈ nb p) : ∀ {n : Nat} {y : Int}, Reach nb q n y → Reach nb p (n + 1) y
  | 0, y, e => by
    have e : y = q := e
    subst e
    exact ⟨p, rfl, h⟩
  | n + 1, y, ⟨c, hc, hy⟩ => ⟨c, Reach.cons hs h hc, hy⟩
theorem Reach.symm {nb : Int → List Int} (hs : ∀ a b, b ∈ nb a → a ∈ nb b) {p : Int} : ∀ {n : Nat} {y : Int}, Reach nb p n y → Reach nb y n p
  | 0, y, e => by
    have e : y = p := e
    exact e.symm
  | n + 1, y, ⟨c, hc, hy⟩ => (Reach.symm hs hc).cons hs (hs c y hy)
theorem nbr_sym (ts : List Tie) (a b : Int) (h : b ∈ nbr ts a) : a ∈ nbr ts b := by
  obtain ⟨t, ht, hm⟩ := List.mem_flatMap.mp h
  refine List.mem_flatMap.mpr ⟨t, ht, ?_⟩
  rcases List.mem_append.mp hm with hm | hm
  · split at hm
    · rename_i e
      rw [List.mem_singleton.mp hm]
      exact List.mem_append_right _ (by rw [if_pos rfl, e]; exact List.mem_cons_self)
    · cases hm
  · split at hm
    · rename_i e
      rw [List.mem_singleton.mp hm]
      exact List.mem_append_left _ (by rw [if_pos rfl, e]; exact List.mem_cons_self)
    · cases hm
theorem lookF_app_l {far more : Far} {y : Int} (h : y ∈ far.map (·.1)) : lookF (far ++ more) y = lookF far y := by
  unfold lookF
  rw [List.find?_append]
  obtain ⟨p, hp, e⟩ := List.mem_map.mp h
  cases hf : far.find? (fun p => decide (p.1 = y)) with
  | some q => rfl
  | none => exact absurd (decide_eq_true e) (by have := List.find?_eq_none.mp hf p hp; simpa using this)
theorem lookF_app_r {far more : Far} {y : Int} (h : y ∉ far.map (·.1)) : lookF (far ++ more) y = lookF more y := by
  unfold lookF
  rw [List.find?_append]
  have hf : far.find? (fun p => decide (p.1 = y)) = none := List.find?_eq_none.mpr fun p hp e => h (List.mem_map.mpr ⟨p, hp, of_decide_eq_true e⟩)
  rw [hf]; rfl
theorem lookF_const {ys : List Int} {y : Int} {k : Nat} (h : y ∈ ys) : lookF (ys.map fun z => (z, k)) y = k := by
  induction ys with
  | nil => cases h
  | cons z ys ih =>
    unfold lookF at ih ⊢
    rw [List.map_cons]
    by_cases e : z = y
    · rw [List.find?_cons_of_pos (by exact decide_eq_true e)]; rfl
    · rw [List.find?_cons_of_neg (by simpa using e)]
      rcases List.mem_cons.mp h with rfl | h
      · exact absurd rfl e
      · exact ih h
/-- while a level is made: old ones, new ones, from those that were looked at -/
structure Mid (far0 : Far) (i : Nat) (S : Int → Prop) (s : Far × List Int) : Prop where
  eq : s.1 = far0 ++ s.2.map fun y => (y, i + 1)
  mem : ∀ y, y ∈ s.2 ↔ y ∉ far0.map (·.1) ∧ S y
theorem map_keys (ys : List Int) (k : Nat) : (ys.map fun y => (y, k)).map (·.1) = ys := by
  rw [List.map_map]
  exact List.map_id' ys
theorem Mid.keys {far0 : Far} {i : Nat} {S : Int → Prop} {s : Far × List Int} (m : Mid far0 i S s) (y : Int) : y ∈ s.1.map (·.1) ↔ y ∈ far0.map (·.1) ∨ y ∈ s.2 := by
  rw [m.eq, List.map_append, List.mem_append, map_keys]
theorem Mid.stepO {far0 : Far} {i : Nat} {S : Int → Prop} {s : Far × List Int} (m : Mid far0 i S s) {one o : Int} (h1 : one ∈ far0.map (·.1)) (hl : lookF far0 one = i) : Mid far0 i (fun y => S y ∨ y = o) (stepO one s o) := by
  have hlk : lookF s.1 one = i := by rw [m.eq, lookF_app_l h1, hl]
  unfold HI.stepO
  by_cases h : o ∈ s.1.map (·.1)
  · rw [if_pos h]
    refine ⟨m.eq, fun y => ⟨fun hy => ⟨((m.mem y).mp hy).1, .inl ((m.mem y).mp hy).2⟩, fun ⟨n, hy⟩ => ?_⟩⟩
    rcases hy with hy | rfl
    · exact (m.mem y).mpr ⟨n, hy⟩
    · rcases (m.keys y).mp h with h | h
      · exact absurd h n
      · exact h
  · rw [if_neg h, hlk]
    refine ⟨?_, fun y => ?_⟩
    · show s.1 ++ [(o, i + 1)] = far0 ++ (s.2 ++ [o]).map _
      rw [List.map_append, ← List.append_assoc, ← m.eq]; rfl
    · show y ∈ s.2 ++ [o] ↔ _
      rw [List.mem_append, List.mem_singleton, m.mem y]
      constructor
      · rintro (⟨a, b⟩ | rfl)
        · exact ⟨a, .inl b⟩
        · exact ⟨fun z => h ((m.keys y).mpr (.inl z)), .inr rfl⟩
      · rintro ⟨a, b | b⟩
        · exact .inl ⟨a, b⟩
        · exact .inr b
theorem Mid.congr {far0 : Far} {i : Nat} {S T : Int → Prop} {s : Far × List Int} (m : Mid far0 i S s) (h : ∀ y, S y ↔ T y) : Mid far0 i T s := ⟨m.eq, fun y => by rw [m.mem y, h y]⟩
theorem Mid.foldO {far0 : Far} {i : Nat} {one : Int} (h1 : one ∈ far0.map (·.1)) (hl : lookF far0 one = i) : ∀ {os : List Int} {S : Int → Prop} {s : Far × List Int}, Mid far0 i S s → Mid far0 i (fun y => S y ∨ y ∈ os) (os.foldl (HI.stepO one) s)
  | [], S, s, m => m.congr fun y => by simp
  | o :: os, S, s, m => ((m.stepO h1 hl).foldO h1 hl (os := os)).congr fun y => by simp [or_assoc]
theorem Mid.foldE {far0 : Far} {i : Nat} {nb : Int → List Int} : ∀ {es : List Int} {S : Int → Prop} {s : Far × List Int}, (∀ e ∈ es, e ∈ far0.map (·.1) ∧ lookF far0 e = i) → Mid far0 i S s → Mid far0 i (fun y => S y ∨ ∃ e ∈ es, y ∈ nb e) (es.foldl (stepE nb) s)
  | [], S, s, _, m => m.congr fun y => by simp
  | e :: es, S, s, h, m => by
    have m1 : Mid far0 i (fun y => S y ∨ y ∈ nb e) (stepE nb s e) := m.foldO (h e List.mem_cons_self).1 (h e List.mem_cons_self).2
    exact (Mid.foldE (fun x hx => h x (List.mem_cons_of_mem _ hx)) m1).congr fun y => by simp [or_assoc]
/-- what is known behind i levels -/
structure Least (nb : Int → List Int) (p : Int) (i : Nat) (s : Far × List Int) : Prop where
  mem : ∀ y, y ∈ s.1.map (·.1) ↔ ∃ n, n ≤ i ∧ Reach nb p n y
  way : ∀ y, y ∈ s.1.map (·.1) → Reach nb p (lookF s.1 y) y ∧ ∀ n, Reach nb p n y → lookF s.1 y ≤ n
  edge : ∀ y, y ∈ s.2 ↔ y ∈ s.1.map (·.1) ∧ lookF s.1 y = i
theorem Least.lvl {nb : Int → List Int} {p : Int} {i : Nat} {s : Far × List Int} (l : Least nb p i s) : Least nb p (i + 1) (lvl nb s) := by
  have m : Mid s.1 i (fun y => False ∨ ∃ e ∈ s.2, y ∈ nb e) (HI.lvl nb s) := Mid.foldE (fun e he => (l.edge e).mp he) ⟨by simp, fun y => by simp⟩
  have far : ∀ y, y ∈ s.1.map (·.1) → lookF (HI.lvl nb s).1 y = lookF s.1 y := fun y hy => by rw [m.eq, lookF_app_l hy]
  have new : ∀ y, y ∈ (HI.lvl nb s).2 → lookF (HI.lvl nb s).1 y = i + 1 := fun y hy => by rw [m.eq, lookF_app_r ((m.mem y).mp hy).1, lookF_const hy]
  have le : ∀ y, y ∈ s.1.map (·.1) → lookF s.1 y ≤ i := fun y hy => by
    obtain ⟨n, hn, hr⟩ := (l.mem y).mp hy
    exact Nat.le_trans ((l.way y hy).2 n hr) hn
  have reach : ∀ y, y ∈ (HI.lvl nb s).2 → Reach nb p (i + 1) y := fun y hy => by
    rcases ((m.mem y).mp hy).2 with f | ⟨e, he, hye⟩
    · exact f.elim
    · obtain ⟨e1, e2⟩ := (l.edge e).mp he
      have := (l.way e e1).1
      rw [e2] at this
      exact ⟨e, this, hye⟩
  have mem : ∀ y, y ∈ (HI.lvl nb s).1.map (·.1) ↔ ∃ n, n ≤ i + 1 ∧ Reach nb p n y := fun y => by
    rw [m.keys y]
    constructor
    · rintro (h | h)
      · obtain ⟨n, hn, hr⟩ := (l.mem y).mp h
        exact ⟨n, by omega, hr⟩
      · exact ⟨i + 1, Nat.le_refl _, reach y h⟩
    · rintro ⟨n, hn, hr⟩
      by_cases hni : n ≤ i
      · exact .inl ((l.mem y).mpr ⟨n, hni, hr⟩)
      · obtain rfl : n = i + 1 := by omega
        obtain ⟨c, hc, hy⟩ := hr
        have hcm := (l.mem c).mpr ⟨i, Nat.le_refl _, hc⟩
        by_cases hlt : lookF s.1 c = i
        · by_cases hyf : y ∈ s.1.map (·.1)
          · exact .inl hyf
          · exact .inr ((m.mem y).mpr ⟨hyf, .inr ⟨c, (l.edge c).mpr ⟨hcm, hlt⟩, hy⟩⟩)
        · have hl := le c hcm
          exact .inl ((l.mem y).mpr ⟨lookF s.1 c + 1, by omega, c, (l.way c hcm).1, hy⟩)
  refine ⟨mem, fun y hy => ?_, fun y => ?_⟩
  · rcases (m.keys y).mp hy with h | h
    · rw [far y h]; exact l.way y h
    · rw [new y h]
      refine ⟨reach y h, fun n hr => ?_⟩
      by_cases hni : n ≤ i
      · exact absurd ((l.mem y).mpr ⟨n, hni, hr⟩) ((m.mem y).mp h).1
      · omega
  · constructor
    · intro h
      exact ⟨(m.keys y).mpr (.inr h), new y h⟩
    · rintro ⟨h1, h2⟩
      rcases (m.keys y).mp h1 with h | h
      · rw [far y h] at h2
        have := le y h
        omega
      · exact h
theorem lev_least (nb : Int → List Int) (p : Int) : ∀ i, Least nb p i (lev nb p i)
  | 0 => by
    have e : lookF [(p, 0)] p = 0 := by unfold lookF; rw [List.find?_cons_of_pos (by exact decide_eq_true rfl)]; rfl
    refine ⟨fun y => ?_, fun y hy => ?_, fun y => ?_⟩
    · show y ∈ [p] ↔ _
      rw [List.mem_singleton]
      constructor
      · intro h; exact ⟨0, Nat.le_refl _, h⟩
      · rintro ⟨n, hn, hr⟩
        obtain rfl : n = 0 := by omega
        exact hr
    · have hy : y ∈ [p] := hy
      rw [List.mem_singleton.mp hy]
      show Reach nb p (lookF [(p, 0)] p) p ∧ ∀ n, Reach nb p n p → lookF [(p, 0)] p ≤ n
      rw [e]
      exact ⟨rfl, fun n _ => Nat.zero_le _⟩
    · show y ∈ [p] ↔ y ∈ [p] ∧ lookF [(p, 0)] y = 0
      constructor
      · intro h
        refine ⟨h, ?_⟩
        rw [List.mem_singleton.mp h]; exact e
      · exact fun h => h.1
  | i + 1 => (lev_least nb p i).lvl
/-- all ways that there are -/
theorem Bfs.least {nb : Int → List Int} {p : Int} {far : Far} (h : Bfs nb p far) : (∀ y, y ∈ far.map (·.1) ↔ ∃ n, Reach nb p n y) ∧ ∀ y, y ∈ far.map (·.1) → Reach nb p (lookF far y) y ∧ ∀ n, Reach nb p n y → lookF far y ≤ n := by
  obtain ⟨i, h⟩ := h
  have l := lev_least nb p i
  rw [h] at l
  refine ⟨fun y => ⟨fun hy => ?_, fun ⟨n, hr⟩ => ?_⟩, l.way⟩
  · obtain ⟨n, _, hr⟩ := (l.mem y).mp hy
    exact ⟨n, hr⟩
  · have l2 := lev_least nb p (i + n)
    rw [lev_stay h n] at l2
    exact (l2.mem y).mpr ⟨n, by omega, hr⟩
end HI

set_option Elab.async false
set_option linter.all false
set_option maxRecDepth 100000
set_option maxHeartbeats 4000000
namespace HI
open PySem L2 PyProof.Rows Hw
/-! how far apart in a tree that is made by putting ends on: (end, to whom), the last one first -/
def DD : List (Int × Int) → Int → Int → Nat
  | [], _, _ => 0
  | (v, p) :: r, x, y => if x = v then (if y = v then 0 else DD r p y + 1) else if y = v then DD r x p + 1 else DD r x y
def VV (r : List (Int × Int)) : List Int := 0 :: r.map (·.1)
/-- each is put to one that is there, and is new -/
def Grown : List (Int × Int) → Prop
  | [] => True
  | (v, p) :: r => v ∉ VV r ∧ p ∈ VV r ∧ Grown r
theorem vv_cons {v p : Int} {r : List (Int × Int)} {x : Int} : x ∈ VV ((v, p) :: r) ↔ x = v ∨ x ∈ VV r := by
  unfold VV
  rw [List.map_cons, List.mem_cons, List.mem_cons, List.mem_cons]
  exact ⟨fun h => by rcases h with h | h | h <;> simp [h], fun h => by rcases h with h | h | h <;> simp [h]⟩
theorem dd_self : ∀ (r : List (Int × Int)) (x : Int), DD r x x = 0
  | [], _ => rfl
  | (v, p) :: r, x => by
    show (if x = v then (if x = v then 0 else DD r p x + 1) else if x = v then DD r x p + 1 else DD r x x) = 0
    by_cases h : x = v
    · rw [if_pos h, if_pos h]
    · rw [if_neg h, if_neg h]; exact dd_self r x
theorem dd_sym : ∀ (r : List (Int × Int)) (x y : Int), DD r x y = DD r y x
  | [], _, _ => rfl
  | (v, p) :: r, x, y => by
    show (if x = v then (if y = v then 0 else DD r p y + 1) else if y = v then DD r x p + 1 else DD r x y) = (if y = v then (if x = v then 0 else DD r p x + 1) else if x = v then DD r y p + 1 else DD r y x)
    by_cases h1 : x = v <;> by_cases h2 : y = v
    · rw [if_pos h1, if_pos h2, if_pos h2, if_pos h1]
    · rw [if_pos h1, if_neg h2, if_neg h2, if_pos h1, dd_sym r p y]
    · rw [if_neg h1, if_pos h2, if_pos h2, if_neg h1, dd_sym r x p]
    · rw [if_neg h1, if_neg h2, if_neg h2, if_neg h1, dd_sym r x y]
theorem dd_cons (v p : Int) (r : List (Int × Int)) (x y : Int) : DD ((v, p) :: r) x y = (if x = v then (if y = v then 0 else DD r p y + 1) else if y = v then DD r x p + 1 else DD r x y) := rfl
/-- of three sums two are the greatest -/
theorem dd_four : ∀ (r : List (Int × Int)) (a b c d : Int), DD r a b + DD r c d ≤ DD r a c + DD r b d ∨ DD r a b + DD r c d ≤ DD r a d + DD r b c
  | [], _, _, _, _ => .inl (Nat.le_refl _)
  | (v, p) :: r, a, b, c, d => by
    simp only [dd_cons]
    by_cases ha : a = v <;> by_cases hb : b = v <;> by_cases hc : c = v <;> by_cases hd : d = v <;> simp only [if_pos, if_neg, ha, hb, hc, hd, if_true, if_false]
    all_goals
      have h1 := dd_four r (if a = v then p else a) (if b = v then p else b) (if c = v then p else c) (if d = v then p else d)
      simp only [ha, hb, hc, hd, if_true, if_false, dd_self] at h1
      have s1 := dd_sym r p a
      have s2 := dd_sym r p b
      have s3 := dd_sym r p c
      have s4 := dd_sym r p d
      omega
end HI

set_option Elab.async false
set_option linter.all false
set_option maxRecDepth 100000
set_option maxHeartbeats 4000000
namespace HI
open PySem L2 PyProof.Rows Hw
def Edge (r : List (Int × Int)) (u w : Int) : Prop := (u, w) ∈ r ∨ (w, u) ∈ r
theorem grown_in {r : List (Int × Int)} (g : Grown r) : ∀ {v p : Int}, (v, p) ∈ r → v ∈ VV r ∧ p ∈ VV r := by
  induction r with
  | nil => intro v p h; cases h
  | cons q r ih =>
    obtain ⟨v0, p0⟩ := q
    obtain ⟨g1, g2, g3⟩ := g
    intro v p h
    rcases List.mem_cons.mp h with e | h
    · cases e
      exact ⟨vv_cons.mpr (.inl rfl), vv_cons.mpr (.inr g2)⟩
    · obtain ⟨a, b⟩ := ih g3 h
      exact ⟨vv_cons.mpr (.inr a), vv_cons.mpr (.inr b)⟩
theorem edge_in {r : List (Int × Int)} (g : Grown r) {u w : Int} (e : Edge r u w) : u ∈ VV r ∧ w ∈ VV r := by
  rcases e with e | e
  · exact grown_in g e
  · exact ⟨(grown_in g e).2, (grown_in g e).1⟩
theorem dd_lip {r : List (Int × Int)} (g : Grown r) {u w : Int} (e : Edge r u w) (x : Int) : DD r x u ≤ DD r x w + 1 := by
  induction r generalizing x with
  | nil => exact Nat.zero_le _
  | cons q r ih =>
    obtain ⟨v, p⟩ := q
    obtain ⟨g1, g2, g3⟩ := g
    have hpv : p ≠ v := fun z => g1 (z ▸ g2)
    have old : ∀ {u w : Int}, Edge r u w → u ≠ v ∧ w ≠ v := fun {u w} e => by
      obtain ⟨a, b⟩ := edge_in g3 e
      exact ⟨fun z => g1 (z ▸ a), fun z => g1 (z ▸ b)⟩
    have oldc : Edge r u w → DD ((v, p) :: r) x u ≤ DD ((v, p) :: r) x w + 1 := fun e => by
      obtain ⟨a, b⟩ := old e
      rw [dd_cons, dd_cons]
      by_cases hx : x = v
      · rw [if_pos hx, if_pos hx, if_neg a, if_neg b]
        have := ih g3 e p
        omega
      · rw [if_neg hx, if_neg hx, if_neg a, if_neg b]
        exact ih g3 e x
    rcases e with e | e
    · rcases List.mem_cons.mp e with e | e
      · have eu : u = v := by cases e; rfl
        have ew : w = p := by cases e; rfl
        rw [eu, ew, dd_cons, dd_cons]
        by_cases hx : x = v
        · rw [if_pos hx, if_pos rfl]; exact Nat.zero_le _
        · rw [if_neg hx, if_pos rfl, if_neg hx, if_neg hpv]; exact Nat.le_refl _
      · exact oldc (.inl e)
    · rcases List.mem_cons.mp e with e | e
      · have eu : w = v := by cases e; rfl
        have ew : u = p := by cases e; rfl
        rw [eu, ew, dd_cons, dd_cons]
        by_cases hx : x = v
        · rw [if_pos hx, if_neg hpv, if_pos hx, if_pos rfl, dd_self]; exact Nat.le_refl _
        · rw [if_neg hx, if_neg hpv, if_neg hx, if_pos rfl]; omega
      · exact oldc (.inr e)
theorem edge_cons {q : Int × Int} {r : List (Int × Int)} {u w : Int} (e : Edge r u w) : Edge (q :: r) u w := by
  rcases e with e | e
  · exact .inl (List.mem_cons_of_mem _ e)
  · exact .inr (List.mem_cons_of_mem _ e)
theorem dd_down {r : List (Int × Int)} (g : Grown r) : ∀ {x y : Int}, x ∈ VV r → y ∈ VV r → x ≠ y → ∃ z, z ∈ VV r ∧ Edge r y z ∧ DD r x y = DD r x z + 1 := by
  induction r with
  | nil =>
    intro x y hx hy ne
    rw [List.mem_singleton.mp (show x ∈ [0] from hx), List.mem_singleton.mp (show y ∈ [0] from hy)] at ne
    exact absurd rfl ne
  | cons q r ih =>
    obtain ⟨v, p⟩ := q
    obtain ⟨g1, g2, g3⟩ := g
    have hpv : p ≠ v := fun z => g1 (z ▸ g2)
    intro x y hx hy ne
    by_cases h1 : y = v
    · subst h1
      refine ⟨p, vv_cons.mpr (.inr g2), .inl List.mem_cons_self, ?_⟩
      rw [dd_cons, dd_cons, if_neg ne, if_pos rfl, if_neg ne, if_neg hpv]
    · have hy' : y ∈ VV r := (vv_cons.mp hy).resolve_left h1
      by_cases h2 : x = v
      · subst h2
        by_cases h3 : y = p
        · subst h3
          refine ⟨x, vv_cons.mpr (.inl rfl), .inr List.mem_cons_self, ?_⟩
          rw [dd_cons, dd_cons, if_pos rfl, if_neg h1, if_pos rfl, if_pos rfl, dd_self]
        · obtain ⟨z, hz, e, hd⟩ := ih g3 g2 hy' (Ne.symm h3)
          have hzv : z ≠ x := fun q => g1 (q ▸ hz)
          refine ⟨z, vv_cons.mpr (.inr hz), edge_cons e, ?_⟩
          rw [dd_cons, dd_cons, if_pos rfl, if_neg h1, if_pos rfl, if_neg hzv, hd]
      · have hx' : x ∈ VV r := (vv_cons.mp hx).resolve_left h2
        obtain ⟨z, hz, e, hd⟩ := ih g3 hx' hy' ne
        have hzv : z ≠ v := fun q => g1 (q ▸ hz)
        refine ⟨z, vv_cons.mpr (.inr hz), edge_cons e, ?_⟩
        rw [dd_cons, dd_cons, if_neg h2, if_neg h1, if_neg h2, if_neg hzv, hd]
theorem reach_ge {r : List (Int × Int)} {nb : Int → List Int} (g : Grown r) (hn : ∀ u w, w ∈ nb u → Edge r u w) {x : Int} : ∀ {n : Nat} {y : Int}, Reach nb x n y → DD r x y ≤ n
  | 0, y, e => by
    have e : y = x := e
    rw [e, dd_self]; exact Nat.le_refl _
  | n + 1, y, ⟨c, hc, hy⟩ => by
    have h1 := reach_ge g hn hc
    have h2 := dd_lip g (e := (show Edge r y c from (hn c y hy).elim .inr .inl)) x
    omega
theorem reach_dd {r : List (Int × Int)} {nb : Int → List Int} (g : Grown r) (hn : ∀ u w, Edge r u w → w ∈ nb u) {x : Int} (hx : x ∈ VV r) : ∀ (n : Nat) {y : Int}, y ∈ VV r → DD r x y = n → Reach nb x n y
  | 0, y, hy, e => by
    by_cases h : x = y
    · exact h.symm
    · obtain ⟨z, _, _, hd⟩ := dd_down g hx hy h
      omega
  | n + 1, y, hy, e => by
    have h : x ≠ y := fun z => by rw [z, dd_self] at e; cases e
    obtain ⟨z, hz, he, hd⟩ := dd_down g hx hy h
    exact ⟨z, reach_dd g hn hx n hz (by omega), hn z y (he.elim .inr .inl)⟩
theorem far_dd {r : List (Int × Int)} {nb : Int → List Int} (g : Grown r) (h1 : ∀ u w, w ∈ nb u → Edge r u w) (h2 : ∀ u w, Edge r u w → w ∈ nb u) {x y : Int} {far : Far} (hx : x ∈ VV r) (hy : y ∈ VV r) (b : Bfs nb x far) : y ∈ far.map (·.1) ∧ lookF far y = DD r x y := by
  have hr := reach_dd g h2 hx _ hy rfl
  obtain ⟨m, w⟩ := b.least
  have hm := (m y).mpr ⟨_, hr⟩
  obtain ⟨w1, w2⟩ := w y hm
  exact ⟨hm, Nat.le_antisymm (w2 _ hr) (reach_ge g h1 w1)⟩
end HI

set_option Elab.async false
set_option linter.all false
set_option maxRecDepth 100000
set_option maxHeartbeats 4000000
namespace HI
open PySem L2 PyProof.Rows Hw
/-! a tree is made by putting ends on -/
def Attach (nb : Int → List Int) (l : List Int) : Prop := ∀ i x, 0 < i → l[i]? = some x → ∃ p ∈ l.take i, x ∈ nb p
theorem Attach.snoc {nb : Int → List Int} {l : List Int} (a : Attach nb l) {p o : Int} (hp : p ∈ l) (ho : o ∈ nb p) : Attach nb (l ++ [o]) := by
  intro i x hi hx
  by_cases h : i < l.length
  · rw [List.getElem?_append_left h] at hx
    obtain ⟨q, hq, hn⟩ := a i x hi hx
    exact ⟨q, by rw [List.take_append_of_le_length (by omega)]; exact hq, hn⟩
  · have hlt := (List.getElem?_eq_some_iff.mp hx).1
    rw [List.length_append, List.length_singleton] at hlt
    obtain rfl : i = l.length := by omega
    rw [List.getElem?_append_right (Nat.le_refl _), Nat.sub_self] at hx
    obtain rfl : o = x := by simpa using hx
    exact ⟨p, by rw [List.take_left' rfl]; exact hp, ho⟩
abbrev keysF (s : Far × List Int) : List Int := s.1.map (·.1)
theorem att_stepO {nb : Int → List Int} {s : Far × List Int} (a : Attach nb (keysF s)) {p o : Int} (hp : p ∈ keysF s) (ho : o ∈ nb p) : Attach nb (keysF (stepO p s o)) ∧ ∀ x ∈ keysF s, x ∈ keysF (stepO p s o) := by
  unfold stepO
  by_cases h : o ∈ s.1.map (·.1)
  · rw [if_pos h]; exact ⟨a, fun _ h => h⟩
  · rw [if_neg h]
    unfold keysF
    rw [List.map_append]
    exact ⟨a.snoc hp ho, fun x hx => List.mem_append_left _ hx⟩
theorem att_foldO {nb : Int → List Int} {p : Int} : ∀ {os : List Int} {s : Far × List Int}, Attach nb (keysF s) → p ∈ keysF s → (∀ o ∈ os, o ∈ nb p) → Attach nb (keysF (os.foldl (stepO p) s)) ∧ ∀ x ∈ keysF s, x ∈ keysF (os.foldl (stepO p) s)
  | [], s, a, _, _ => ⟨a, fun _ h => h⟩
  | o :: os, s, a, hp, ho => by
    obtain ⟨a1, k1⟩ := att_stepO a hp (ho o List.mem_cons_self)
    obtain ⟨a2, k2⟩ := att_foldO (os := os) a1 (k1 _ hp) fun x hx => ho x (List.mem_cons_of_mem _ hx)
    exact ⟨a2, fun x hx => k2 x (k1 x hx)⟩
theorem att_foldE {nb : Int → List Int} : ∀ {es : List Int} {s : Far × List Int}, Attach nb (keysF s) → (∀ e ∈ es, e ∈ keysF s) → Attach nb (keysF (es.foldl (stepE nb) s)) ∧ ∀ x ∈ keysF s, x ∈ keysF (es.foldl (stepE nb) s)
  | [], s, a, _ => ⟨a, fun _ h => h⟩
  | e :: es, s, a, he => by
    obtain ⟨a1, k1⟩ := att_foldO (nb := nb) (p := e) (os := nb e) a (he e List.mem_cons_self) fun _ h => h
    obtain ⟨a2, k2⟩ := att_foldE (nb := nb) (es := es) (s := stepE nb s e) a1 fun x hx => k1 x (he x (List.mem_cons_of_mem _ hx))
    exact ⟨a2, fun x hx => k2 x (k1 x hx)⟩
theorem att_lev {ns : List Int} {nb : Int → List Int} (hnb : ∀ n ∈ ns, ∀ o ∈ nb n, o ∈ ns) {p : Int} (hp : p ∈ ns) : ∀ i, Attach nb (keysF (lev nb p i)) ∧ (keysF (lev nb p i))[0]? = some p
  | 0 => ⟨fun i x hi hx => by
      have := (List.getElem?_eq_some_iff.mp hx).1
      have : i < 1 := this
      omega, rfl⟩
  | i + 1 => by
    obtain ⟨a, h0⟩ := att_lev hnb hp i
    obtain ⟨n0, f⟩ := lev_ok hnb hp i
    obtain ⟨a1, k1⟩ := att_foldE (nb := nb) (es := (lev nb p i).2) (s := ((lev nb p i).1, [])) a fun e he => f.bey e he
    refine ⟨a1, ?_⟩
    -- the first one stays
    have pre : ∀ {q : Int} {os : List Int} {s : Far × List Int}, (keysF s)[0]? = some p → (keysF (os.foldl (stepO q) s))[0]? = some p := by
      intro q os
      induction os with
      | nil => intro s h; exact h
      | cons o os ih =>
        intro s h
        refine ih ?_
        unfold stepO
        by_cases hk : o ∈ s.1.map (·.1)
        · rw [if_pos hk]; exact h
        · rw [if_neg hk]
          unfold keysF
          rw [List.map_append, List.getElem?_append_left (List.getElem?_eq_some_iff.mp h).1]
          exact h
    have preE : ∀ {es : List Int} {s : Far × List Int}, (keysF s)[0]? = some p → (keysF (es.foldl (stepE nb) s))[0]? = some p := by
      intro es
      induction es with
      | nil => intro s h; exact h
      | cons e es ih => intro s h; exact ih (pre h)
    exact preE h0
theorem grow_of {nb : Int → List Int} {l : List Int} (h0 : l[0]? = some 0) (a : Attach nb l) (nd : l.Nodup) : ∀ k, k + 1 ≤ l.length → ∃ r, Grown r ∧ (∀ x, x ∈ VV r ↔ x ∈ l.take (k + 1)) ∧ r.length = k ∧ ∀ e ∈ r, e.1 ∈ nb e.2
  | 0, _ => by
    refine ⟨[], trivial, fun x => ?_, rfl, fun _ h => nomatch h⟩
    rw [List.take_succ, List.take_zero, h0]; rfl
  | k + 1, hk => by
    obtain ⟨r, g, hv, hl, hn⟩ := grow_of h0 a nd k (by omega)
    have hx : l[k + 1]? = some l[k + 1] := List.getElem?_eq_getElem (by omega)
    obtain ⟨p, hp, ho⟩ := a (k + 1) _ (by omega) hx
    have hnew := nodup_take nd hx
    refine ⟨(l[k + 1], p) :: r, ⟨fun h => hnew ((hv _).mp h), (hv p).mpr hp, g⟩, fun x => ?_, by rw [List.length_cons, hl], fun e he => ?_⟩
    · rw [vv_cons, hv x, List.take_succ (i := k + 1), hx, List.mem_append]
      simp [or_comm]
    · rcases List.mem_cons.mp he with rfl | he
      · exact ho
      · exact hn e he
theorem nbr_iff {ts : List Tie} {u w : Int} : w ∈ nbr ts u ↔ (u, w) ∈ ts ∨ (w, u) ∈ ts := by
  unfold nbr
  rw [List.mem_flatMap]
  constructor
  · rintro ⟨⟨a, b⟩, ht, hm⟩
    rcases List.mem_append.mp hm with hm | hm
    · by_cases e : a = u
      · rw [if_pos e] at hm
        rw [List.mem_singleton.mp hm]
        rw [e] at ht
        exact .inl ht
      · rw [if_neg e] at hm; cases hm
    · by_cases e : b = u
      · rw [if_pos e] at hm
        rw [List.mem_singleton.mp hm]
        rw [e] at ht
        exact .inr ht
      · rw [if_neg e] at hm; cases hm
  · rintro (h | h)
    · exact ⟨_, h, List.mem_append_left _ (by rw [if_pos rfl]; exact List.mem_cons_self)⟩
    · exact ⟨_, h, List.mem_append_right _ (by rw [if_pos rfl]; exact List.mem_cons_self)⟩
theorem pairI_cases (a b : Int) : pairI a b = (a, b) ∨ pairI a b = (b, a) := by
  unfold pairI
  split
  · exact .inl rfl
  · exact .inr rfl
theorem grown_pairs {r : List (Int × Int)} (g : Grown r) : (r.map fun e => pairI e.1 e.2).Nodup := by
  induction r with
  | nil => exact List.nodup_nil
  | cons q r ih =>
    obtain ⟨v, p⟩ := q
    obtain ⟨g1, g2, g3⟩ := g
    rw [List.map_cons, List.nodup_cons]
    refine ⟨fun h => ?_, ih g3⟩
    obtain ⟨⟨a, b⟩, he, e⟩ := List.mem_map.mp h
    obtain ⟨i1, i2⟩ := grown_in g3 he
    have e : pairI a b = pairI v p := e
    have : v = a ∨ v = b := by
      rcases pairI_cases a b with h1 | h1 <;> rcases pairI_cases v p with h2 | h2 <;> rw [h1, h2] at e <;> cases e <;> simp
    rcases this with h | h
    · exact g1 (h ▸ i1)
    · exact g1 (h ▸ i2)
/-- what is known of a tree -/
structure TreeW (n : Nat) (ts : List Tie) (r : List (Int × Int)) : Prop where
  g : Grown r
  mem : ∀ x, x ∈ VV r ↔ x ∈ nsI n
  edge : ∀ u w, w ∈ nbr ts u ↔ Edge r u w
theorem tree_of {n : Nat} {ts : List Tie} (hn : 1 ≤ n) (fine : FineW (nsI n) ts) (hl : ts.length + 1 = n) (hr : (reachN ts n 0).length = n) : ∃ r, TreeW n ts r := by
  have hnb := fine_nb fine
  have h0 : (0 : Int) ∈ nsI n := mem_ns (i := 0) (by omega)
  obtain ⟨n0, f⟩ := lev_ok hnb h0 (2 * n)
  obtain ⟨a, hd⟩ := att_lev hnb h0 (2 * n)
  have hkl : (keysF (lev (nbr ts) 0 (2 * n))).length = n := by unfold keysF; rw [List.length_map]; exact hr
  obtain ⟨r, g, hv, hrl, hrn⟩ := grow_of hd a f.nd (n - 1) (by omega)
  have hfull := full_of f (by rw [ns_len]; exact hr)
  have memV : ∀ x, x ∈ VV r ↔ x ∈ nsI n := fun x => by
    rw [hv x, List.take_of_length_le (by omega)]
    exact ⟨fun h => f.sub x h, fun h => hfull x h⟩
  have sub : ∀ t ∈ r.map (fun e => pairI e.1 e.2), t ∈ ts := fun t ht => by
    obtain ⟨⟨v, p⟩, he, rfl⟩ := List.mem_map.mp ht
    have hm := hrn _ he
    rcases nbr_iff.mp hm with h | h
    · have := (fine.tie _ h).2.2
      have e : pairI v p = (p, v) := by unfold pairI; rw [if_neg (by have : p < v := this; omega)]
      show pairI v p ∈ ts
      rw [e]; exact h
    · have := (fine.tie _ h).2.2
      have e : pairI v p = (v, p) := by unfold pairI; rw [if_pos (by exact this)]
      show pairI v p ∈ ts
      rw [e]; exact h
  have all : ∀ t ∈ ts, t ∈ r.map (fun e => pairI e.1 e.2) := fun t ht => by
    by_cases h : t ∈ r.map (fun e => pairI e.1 e.2)
    · exact h
    · exfalso
      have := sub_len (l := t :: r.map (fun e => pairI e.1 e.2)) (m := ts) (List.nodup_cons.mpr ⟨h, grown_pairs g⟩) fun z hz => by
        rcases List.mem_cons.mp hz with rfl | hz
        · exact ht
        · exact sub z hz
      rw [List.length_cons, List.length_map, hrl] at this
      omega
  have tieE : ∀ {u w : Int}, (u, w) ∈ ts → Edge r u w := fun {u w} h => by
    obtain ⟨⟨v, p⟩, he, e⟩ := List.mem_map.mp (all _ h)
    have e : pairI v p = (u, w) := e
    rcases pairI_cases v p with h1 | h1
    · rw [h1] at e; cases e; exact .inl he
    · rw [h1] at e; cases e; exact .inr he
  refine ⟨r, g, memV, fun u w => ⟨fun h => ?_, fun h => ?_⟩⟩
  · rcases nbr_iff.mp h with h | h
    · exact tieE h
    · exact (tieE h).elim .inr .inl
  · rcases h with h | h
    · exact nbr_sym ts w u (hrn _ h)
    · exact hrn _ h
/-! the farthest by two sweeps -/
theorem maxPr_ge (x : Nat × Int) : ∀ (xs : List (Nat × Int)), ∀ y ∈ x :: xs, y.1 ≤ (maxPr x xs).1 := by
  intro xs
  unfold maxPr
  induction xs generalizing x with
  | nil =>
    intro y hy
    rw [List.mem_singleton.mp hy]; exact Nat.le_refl _
  | cons z xs ih =>
    intro y hy
    rw [List.foldl_cons]
    have lt : ltPr x z = true → x.1 ≤ z.1 := fun h => by
      unfold ltPr at h
      simp only [Bool.or_eq_true, Bool.and_eq_true, decide_eq_true_eq] at h
      omega
    have ge : ¬ ltPr x z = true → z.1 ≤ x.1 := fun h => by
      unfold ltPr at h
      simp only [Bool.or_eq_true, Bool.and_eq_true, decide_eq_true_eq, not_or, not_and] at h
      omega
    by_cases h : ltPr x z = true
    · rw [if_pos h]
      have := ih z z List.mem_cons_self
      have l := lt h
      rcases List.mem_cons.mp hy with rfl | hy
      · omega
      · exact ih z y hy
    · rw [if_neg h]
      have := ih x x List.mem_cons_self
      have l := ge h
      rcases List.mem_cons.mp hy with rfl | hy
      · exact this
      · rcases List.mem_cons.mp hy with rfl | hy
        · omega
        · exact ih x y (List.mem_cons_of_mem _ hy)
theorem lastR_far {ns : List Int} {ts : List Tie} (hnb : ∀ n ∈ ns, ∀ o ∈ nbr ts n, o ∈ ns) {p : Int} (hp : p ∈ ns) (m : Nat) :
    (lastR ts m p).2 ∈ ((lev (nbr ts) p m).1.map (·.1)) ∧ lookF (lev (nbr ts) p m).1 (lastR ts m p).2 = (lastR ts m p).1 ∧ ∀ y ∈ (lev (nbr ts) p m).1.map (·.1), lookF (lev (nbr ts) p m).1 y ≤ (lastR ts m p).1 := by
  obtain ⟨n0, f⟩ := lev_ok hnb hp m
  have hs := lev_self hnb hp m
  unfold lastR
  split
  · rename_i e
    rw [List.map_eq_nil_iff.mp e] at hs
    cases hs
  · rename_i x xs e
    have hm := maxPr_mem x xs
    have hg := maxPr_ge x xs
    rw [← e] at hm hg
    obtain ⟨z, hz, ez⟩ := List.mem_map.mp hm
    refine ⟨?_, ?_, fun y hy => ?_⟩
    · rw [← ez]; exact List.mem_map.mpr ⟨z, hz, rfl⟩
    · rw [← ez]; exact lookF_mem f.nd hz
    · obtain ⟨z', hz', rfl⟩ := List.mem_map.mp hy
      rw [lookF_mem f.nd hz']
      exact hg _ (List.mem_map.mpr ⟨z', hz', rfl⟩)
/-- the farthest is far enough for all, and two are so far apart -/
theorem two_sweeps {n : Nat} {ts : List Tie} {r : List (Int × Int)} (hn : 1 ≤ n) (fine : FineW (nsI n) ts) (T : TreeW n ts r) :
    (∀ x ∈ nsI n, ∀ y ∈ nsI n, DD r x y ≤ farT ts n) ∧ ∃ x ∈ nsI n, ∃ y ∈ nsI n, DD r x y = farT ts n := by
  have hnb := fine_nb fine
  have h0 : (0 : Int) ∈ nsI n := mem_ns (i := 0) (by omega)
  have bf : ∀ x ∈ nsI n, Bfs (nbr ts) x (lev (nbr ts) x (2 * n)).1 := fun x hx => reach_bfs hnb hx (by rw [ns_len]; exact Nat.le_refl _)
  have dist : ∀ x ∈ nsI n, ∀ y ∈ nsI n, y ∈ (lev (nbr ts) x (2 * n)).1.map (·.1) ∧ lookF (lev (nbr ts) x (2 * n)).1 y = DD r x y := fun x hx y hy =>
    far_dd T.g (fun u w h => (T.edge u w).mp h) (fun u w h => (T.edge u w).mpr h) ((T.mem x).mpr hx) ((T.mem y).mpr hy) (bf x hx)
  have keyNs : ∀ x ∈ nsI n, ∀ y ∈ (lev (nbr ts) x (2 * n)).1.map (·.1), y ∈ nsI n := fun x hx y hy => by
    obtain ⟨n0, f⟩ := lev_ok hnb hx (2 * n)
    exact f.sub y hy
  obtain ⟨a1, a2, a3⟩ := lastR_far hnb h0 (2 * n)
  have hu := keyNs 0 h0 _ a1
  obtain ⟨b1, b2, b3⟩ := lastR_far hnb hu (2 * n)
  have hw := keyNs _ hu _ b1
  have eF : farT ts n = (lastR ts (2 * n) (lastR ts (2 * n) 0).2).1 := rfl
  generalize (lastR ts (2 * n) 0) = p at a1 a2 a3 hu b1 b2 b3 hw eF
  rw [eF]
  have ecc : ∀ y ∈ nsI n, DD r p.2 y ≤ (lastR ts (2 * n) p.2).1 := fun y hy => by
    obtain ⟨m1, m2⟩ := dist _ hu y hy
    rw [← m2]; exact b3 y m1
  have ecc0 : ∀ y ∈ nsI n, DD r 0 y ≤ DD r 0 p.2 := fun y hy => by
    obtain ⟨m1, m2⟩ := dist 0 h0 y hy
    obtain ⟨_, m4⟩ := dist 0 h0 _ hu
    rw [← m2, ← m4, a2]; exact a3 y m1
  refine ⟨fun x hx y hy => ?_, p.2, hu, (lastR ts (2 * n) p.2).2, hw, ?_⟩
  · have h := dd_four r 0 p.2 x y
    have e1 := ecc0 x hx
    have e2 := ecc0 y hy
    have e3 := ecc x hx
    have e4 := ecc y hy
    have s1 := dd_sym r p.2 x
    have s2 := dd_sym r p.2 y
    omega
  · rw [← (dist _ hu _ hw).2, b2]
end HI

set_option Elab.async false
set_option linter.all false
set_option maxRecDepth 100000
set_option maxHeartbeats 4000000
namespace Hw
open PySem PySem.Spec L2 PyProof.Rows
/-! list(d.values()) -/
section
variable {X : Cx} {e : Expr} {td : TE} {apos cpos : Pos}
def tVals (td : TE) : TE := fun σ H Q => td σ H fun x H1 => ∃ (d : Addr) (kvs : List (Key × V)), x = .ref d ∧ H1 d = some (.dK kvs) ∧ ∀ p, H1 p = none → Q (.ref p) (upd H1 p (viewO "dict_values" p d))
theorem pe_valsK (he : PE X e td) (hbase : attributeBase e "values" X.env (eval e X.env) = eval e X.env := by rfl) (hline : (apos.endLine == cpos.line) = true := by rfl) : PE X (.Call (.Attribute e "values" apos) [] [] cpos) (tVals td) := by
  refine ⟨fun pins s σ H Q I h => ?_⟩
  refine wpAny_Call_method (T := "dict") (id := "dict.values") hbase rfl hline F.plainAttrs_dict F.slot_dict_values F.type_dict_values (thn (he.run pins s σ H _ I h) fun u s1 ⟨x, H1, I1, rx, d, kvs, ex, hd, q⟩ => ?_)
  subst ex
  obtain rfl : u = Value.ref d := rx
  obtain ⟨_, hs, vs, kv, dof⟩ := dk_rd I1.hok (.inl hd)
  refine ⟨dof.typeIs, dof.mapOf.noDict, ?_⟩
  have fin : EP X pins σ Q (.ref s1.heap.objs.size) { s1 with heap := s1.heap.push { cls := .type "dict_values", data := .fields #[.ref d] } } :=
    ⟨.ref s1.heap.objs.size, upd H1 s1.heap.objs.size (viewO "dict_values" s1.heap.objs.size d), I1.laid (t' := s1.toks) (fun b o q => Heap.get?_push_of_some _ q) (Nat.le_refl _) (viewO_ok (Heap.get?_push_size _ rfl)), rfl, q _ (I1.hok.fresh (Nat.le_refl _))⟩
  show wpAny _ _ (callWith cpos (.builtin "dict.values") [.ref d] [] []) _ X.xe s1
  exact method_meetsIn F.slot_dict_values F.entry_dict_values rfl (PySem.evalArgs_none ⟨rfl, dof.typeIs, F.args_dict_values_1 _, _, meets_dict_values (mixKind X.prog X.w) d hs, ⟨vs, dof⟩, fin⟩)
def rListVw : List V → Hp → VK → Prop := fun xs H Q => ∃ (p d : Addr) (kvs : List (Key × V)), xs = [V.ref p] ∧ H p = some (viewO "dict_values" p d) ∧ H d = some (.dK kvs) ∧ ∀ q, H q = none → Q (.ref q) (upd H q (.lst (kvs.map (·.2))))
theorem call_listVw (hc : X.calm = true) : CallR X (.type "list") rListVw := by
  intro pins s σ H xs us Q I r h
  obtain ⟨p, d, kvs, rfl, hp, hd, q⟩ := h
  rw [Vals.ref1 r]
  obtain ⟨z, hs, vs, kv, dof⟩ := dk_rd I.hok (.inl hd)
  obtain ⟨ep, dat⟩ := dof.dictAt
  have hv : s.heap.get? p = some (DSub.viewOb "dict_values" d) := (show ObjOk X.prog X.w H s.heap p (viewO "dict_values" p d) from I.hok p _ hp).1
  have hl : kvs.length = vs.length := Paired.length kv
  refine PySem.W.kdl_call (PySem.W.kdl_values (knd := mixKind X.prog X.w) (r := p) (d := d) (kvs := vs) (ep := ep)) (I.ok.hd hc) ⟨⟨_, hv, rfl, rfl⟩, dat⟩ (by omega) fun h' tk acc' c' hk hS' hacc => ?_
  have e1 := PySem.W.kdl_vals_eq (kvs := vs) acc'.toList (by rw [Array.length_toList]; exact hacc.1) fun j v e => hacc.2 j v (by rw [← Array.getElem?_toList]; exact e)
  have e2 : Vals (kvs.map (·.2)) acc'.toList := by
    rw [e1]
    clear e1 hacc hS' dat dof hl hd q z
    induction kv with
    | nil => exact .nil
    | cons a t ih => exact .cons a.2 ih
  exact ⟨.ref s.heap.objs.size, upd H s.heap.objs.size (.lst (kvs.map (·.2))), I.laid (t' := tk) (fun b o e => hk b o e) (Nat.le_refl _) ⟨by rw [List.length_map]; exact z, acc'.toList, c', e2, by rw [Array.toArray_toList]; exact hS'⟩, rfl, q _ (I.hok.fresh (Nat.le_refl _))⟩
end
end Hw

set_option Elab.async false
set_option linter.all false
set_option maxRecDepth 100000
set_option maxHeartbeats 4000000
namespace HI
open PySem L2 PyProof.Rows Hw
abbrev sLFar : Stmt := topS 31
def eccT (ts : List Tie) (n : Nat) (x : Int) : Nat := (lastR ts (2 * n) x).1
def spLFarthest : Sp := fun vs H Q _ => ∃ (tl : Addr) (n : Nat) (ts : List Tie) (qs : List Addr) (r : List (Int × Int)), vs = [.int (n : Nat), .ref tl] ∧ 1 ≤ n ∧ n ≤ 200 ∧ FineW (nsI n) ts ∧ TreeW n ts r ∧ H tl = some (.tup (qs.map V.ref)) ∧ Paired (TieL H) qs ts ∧ ∀ H', Same H H' → Q (.int (farT ts n : Nat)) H'
theorem enc_vals (far : Far) : (encF far).map (·.2) = (far.map fun p => ((p.2 : Nat) : Int)).map V.int := by
  unfold encF
  rw [List.map_map, List.map_map]; rfl
theorem ecc_is {n : Nat} {ts : List Tie} (fine : FineW (nsI n) ts) {x : Int} (hx : x ∈ nsI n) {far : Far} (hb : Bfs (nbr ts) x far) {m : Int} (h1 : m ∈ far.map fun p => ((p.2 : Nat) : Int)) (h2 : ∀ y ∈ far.map (fun p => ((p.2 : Nat) : Int)), y ≤ m) : m = (eccT ts n x : Nat) := by
  have hnb := fine_nb fine
  have efar : far = (lev (nbr ts) x (2 * n)).1 := hb.uniq (reach_bfs hnb hx (by rw [ns_len]; exact Nat.le_refl _))
  obtain ⟨a1, a2, a3⟩ := lastR_far hnb hx (2 * n)
  obtain ⟨n0, f⟩ := lev_ok hnb hx (2 * n)
  rw [← efar] at a1 a2 a3
  have fnd : (far.map (·.1)).Nodup := by rw [efar]; exact f.nd
  obtain ⟨z, hz, rfl⟩ := List.mem_map.mp h1
  obtain ⟨u, hu, eu⟩ := List.mem_map.mp a1
  have e1 : lookF far z.1 = z.2 := lookF_mem fnd hz
  have e2 : lookF far u.1 = u.2 := lookF_mem fnd hu
  have g1 := a3 z.1 (List.mem_map.mpr ⟨z, hz, rfl⟩)
  have g2 := h2 _ (List.mem_map.mpr ⟨u, hu, rfl⟩)
  rw [← eu, e2] at a2
  unfold eccT
  show ((z.2 : Nat) : Int) = _
  have g2 : ((u.2 : Nat) : Int) ≤ ((z.2 : Nat) : Int) := g2
  omega
theorem ecc_dd {n : Nat} {ts : List Tie} {r : List (Int × Int)} (fine : FineW (nsI n) ts) (T : TreeW n ts r) {x : Int} (hx : x ∈ nsI n) : (∀ y ∈ nsI n, DD r x y ≤ eccT ts n x) ∧ ∃ y ∈ nsI n, DD r x y = eccT ts n x := by
  have hnb := fine_nb fine
  have bf := reach_bfs hnb hx (by rw [ns_len]; exact Nat.le_refl n)
  obtain ⟨a1, a2, a3⟩ := lastR_far hnb hx (2 * n)
  obtain ⟨n0, f⟩ := lev_ok hnb hx (2 * n)
  have dist : ∀ y ∈ nsI n, y ∈ (lev (nbr ts) x (2 * n)).1.map (·.1) ∧ lookF (lev (nbr ts) x (2 * n)).1 y = DD r x y := fun y hy =>
    far_dd T.g (fun u w h => (T.edge u w).mp h) (fun u w h => (T.edge u w).mpr h) ((T.mem x).mpr hx) ((T.mem y).mpr hy) bf
  refine ⟨fun y hy => ?_, _, f.sub _ a1, ?_⟩
  · obtain ⟨m1, m2⟩ := dist y hy
    rw [← m2]; exact a3 y m1
  · rw [← (dist _ (f.sub _ a1)).2, a2]; rfl
section
variable {P : Program} {w : World} {K : PySem.W.Frag} {mg : Str → Option Value} {base : Heap}
theorem scLFar : FnScope ["many", "ties", "near", "at"] ["many", "ties"] (defScope sLFar) := ⟨rfl, rfl, rfl, by decide +kernel, rfl, by decide +kernel, by decide +kernel⟩
theorem ok_lfarthest {f fN fF : Addr} {fd fdN fdF : FuncData} {k : Nat} (F : Fun K "_law_farthest" "_law_farthest" sLFar f fd) (B : Blt mg)
    (GN : FnOk P w K mg base CX0 k fN fdN ["many", "ties"] spTreeNear) (gN : mg "_law_tree_near" = some (.ref fN)) (kN : PySem.W.keepIn K (.ref fN) = true) (bN : Binds K fdN ["many", "ties"] [])
    (GF : FnOk P w K mg base CX0 k fF fdF ["near", "name"] spFars) (gF : mg "_law_fars" = some (.ref fF)) (kF : PySem.W.keepIn K (.ref fF) = true) (bF : Binds K fdF ["near", "name"] []) :
    FnOk P w K mg base CX0 (k + 1) f fd ["many", "ties"] spLFarthest := by
  refine F.ok scLFar (fun vs H Q E h => ?_) (fun cdv A outer s H vs Q E hr h => ?_)
  · obtain ⟨tl, n, ts, qs, r, rfl, _⟩ := h
    rfl
  · obtain ⟨tl, n, ts, qs, r, rfl, n1, n2, fine, T, et, hq, q⟩ := h
    refine ⟨_, pss_cons (ps_set (i := 2) scLFar.nd rfl (.inr rfl) (pe_call GN hr (by rfl) gN kN bN .nil pass0 (pa_cons (pv 0) (pa_cons (pv 1) pa_nil))))
      (pss_one (ps_ret (pe_callB (cr_max rfl) (by rfl) B.max PyProof.Rows.boot_max (pa_cons (pe_lc (own := [("at", 3)]) (g := gName 3) (tt := tYes) (te := tCB (rMax K) (tCons (tCB rListVw (tCons (tVals (tCall spFars [] E0 (tCons (tVar 2) (tCons (tVar 3) tNil)))) tNil)) tNil)) rfl scLFar.nd (pi_range1 (by rfl) B.range (pa_cons (pv 0) pa_nil))
          (blkOk_by (N := ["many", "ties", "near", "at"]) (sc := defScope sLFar) (by decide +kernel)) (fun _ _ _ _ _ => pg_name (i := 3) scLFar.nd rfl (Or.inl rfl)) (fun _ _ _ _ _ => pts_nil)
          (fun _ _ _ _ _ => pe_callB (cr_max rfl) (by rfl) B.max PyProof.Rows.boot_max (pa_cons (pe_callTy (call_listVw rfl) (by rfl) B.list PyProof.Rows.boot_list (pa_cons (pe_valsK (pe_call GF hr (by rfl) gF kF bF .nil pass0 (pa_cons (pv 2) (pa_cons (pv 3) pa_nil)))) pa_nil)) pa_nil))) pa_nil)))), ?_⟩
    have hnb := fine_nb fine
    refine rs_set ?_
    refine ⟨.int (n : Int), rfl, .ref tl, rfl, tl, n, ts, qs, rfl, n2, fine, et, hq, fun Dn fa H1 s1 nl => ?_⟩
    refine r_ret ?_
    refine ⟨.int (n : Int), rfl, _, rfl, by omega, by omega, fun D2 nD2 => ?_⟩
    refine L2.lc_range (lo := 0) (fun i H' => Same H1 H' ∧ H' D2 = some (.lst (((List.range i).map fun j => ((eccT ts n (j : Nat) : Nat) : Int)).map V.int))) ⟨same_upd nD2, upd_same⟩ ?_ ?_
    · rintro i H' hi ⟨sx, eD2⟩
      have hi' : i < n := by omega
      have hin : (0 + (i : Int)) ∈ nsI n := by rw [Int.zero_add]; exact mem_ns hi'
      have nlx := nl.keep sx
      refine ⟨rfl, r_yes ?_⟩
      refine ⟨.ref Dn, rfl, .int (0 + (i : Int)), rfl, Dn, 0 + (i : Int), fa, nsI n, ts, rfl, nlx, hin, by rw [ns_len]; omega, hnb, fun far fd' H3 hb hf s3 e3 n3 => ?_⟩
      refine ⟨fd', encF far, rfl, e3, fun p np => ?_⟩
      have sp := same_upd (o := viewO "dict_values" p fd') np
      refine ⟨p, fd', encF far, rfl, upd_same, sp _ _ e3, fun l nl' => ?_⟩
      have sl := same_upd (o := .lst ((encF far).map (·.2))) nl'
      refine ⟨l, far.map fun p => ((p.2 : Nat) : Int), rfl, by rw [← enc_vals]; exact sql_of upd_same, ?_, fun m h1 h2 => ?_⟩
      · rw [List.length_map]
        have hs := lev_self hnb hin (2 * n)
        have efar : far = (lev (nbr ts) (0 + (i : Int)) (2 * n)).1 := hb.uniq (reach_bfs hnb hin (by rw [ns_len]; exact Nat.le_refl _))
        rw [← efar] at hs
        have := List.length_pos_of_mem hs
        rw [List.length_map] at this
        exact this
      have em := ecc_is fine hin hb h1 h2
      rw [Int.zero_add] at em
      subst em
      refine ⟨_, sl _ _ (sp _ _ (s3 _ _ eD2)), smallM2 (by rw [List.length_map, List.length_map, List.length_range]; omega), fun b o e => ?_, ?_⟩
      · rw [upd_ne (ne_of_none e nD2)]; exact sl _ _ (sp _ _ (s3 _ _ (sx _ _ e)))
      · rw [upd_same, List.range_succ, List.map_append, List.map_append]; rfl
    · rintro H2 ⟨s2, eD2⟩
      rw [Int.toNat_natCast] at eD2
      refine ⟨D2, _, rfl, sql_of eD2, by rw [List.length_map, List.length_range]; omega, fun m h1 h2 => ?_⟩
      have em : m = (farT ts n : Nat) := by
        obtain ⟨t1, x, hx, y, hy, t2⟩ := two_sweeps n1 fine T
        obtain ⟨j, hj, rfl⟩ := List.mem_map.mp h1
        have hj := List.mem_range.mp hj
        have hjn : ((j : Nat) : Int) ∈ nsI n := mem_ns hj
        obtain ⟨_, y', hy', e2⟩ := ecc_dd fine T hjn
        have g1 := t1 _ hjn _ hy'
        have hx' := hx
        unfold nsI at hx'
        obtain ⟨jx, hjx, rfl⟩ := List.mem_map.mp hx'
        have g2 := h2 _ (List.mem_map.mpr ⟨jx, hjx, rfl⟩)
        obtain ⟨g3, _⟩ := ecc_dd fine T hx
        have g3 := g3 y hy
        show ((eccT ts n (j : Nat) : Nat) : Int) = _
        have g2 : ((eccT ts n (jx : Nat) : Nat) : Int) ≤ ((eccT ts n (j : Nat) : Nat) : Int) := g2
        omega
      rw [em]
      exact q H2 (s1.trans s2)
end
end HI

set_option Elab.async false
set_option linter.all false
set_option maxRecDepth 100000
set_option maxHeartbeats 4000000
namespace HI
open PySem L2 PyProof.Rows Hw
abbrev sSome : Stmt := topS 23
abbrev sLTie : Stmt := topS 25
theorem erase_map {α β : Type} (g : α → β) : ∀ (l : List α) (i : Nat), (l.map g).eraseIdx i = (l.eraseIdx i).map g
  | [], _ => rfl
  | _ :: _, 0 => rfl
  | x :: l, i + 1 => congrArg (g x :: ·) (erase_map g l i)
def spSomeI : Sp := fun vs H Q _ => ∃ (a b : Addr) (ns : List Int) (m N : Nat), vs = [.ref a, .ref b, .int m] ∧ Pot H a N ∧ H b = some (.lst (ns.map V.int)) ∧ N < 900000000 ∧ m ≤ ns.length ∧ ns.length ≤ 1000 ∧
  ∀ p (zs : List Int) H', (∃ ls, (zs ++ ls).Perm ns) → zs.length = m → H p = none → H' p = some (.lst (zs.map V.int)) → SameX a H H' → Pot H' a (N + m) → Q (.ref p) H'
def mmT (a b : Int) : Tie := (if b < a then b else a, if b > a then b else a)
theorem erase_perm {α : Type} : ∀ (l : List α) (i : Nat) (h : i < l.length), (l[i] :: l.eraseIdx i).Perm l
  | _ :: _, 0, _ => List.Perm.refl _
  | x :: l, i + 1, h => (List.Perm.swap x (l[i]'(Nat.lt_of_succ_lt_succ h)) (l.eraseIdx i)).trans (List.Perm.cons x (erase_perm l i (Nat.lt_of_succ_lt_succ h)))
def spLTie : Sp := fun vs H Q _ => ∃ a b : Int, vs = [.int a, .int b] ∧ ∀ p, H p = none → Q (.ref p) (upd H p (.tup [.int (mmT a b).1, .int (mmT a b).2]))
section
variable {P : Program} {w : World} {K : PySem.W.Frag} {mg : Str → Option Value} {base : Heap}
theorem scSome : FnScope ["pot", "pool", "many", "left", "found", "lap"] ["pot", "pool", "many"] (defScope sSome) := ⟨rfl, rfl, rfl, by decide +kernel, rfl, by decide +kernel, by decide +kernel⟩
theorem ok_someI {f fT : Addr} {fd fdT : FuncData} {k : Nat} (F : Fun K "_law_some" "_law_some" sSome f fd) (B : Blt mg) (GT : FnOk P w K mg base CX0 k fT fdT ["pot", "upto"] spTake) (gT : mg "_law_take" = some (.ref fT)) (kT : PySem.W.keepIn K (.ref fT) = true) (bT : Binds K fdT ["pot", "upto"] []) :
    FnOk P w K mg base CX0 (k + 1) f fd ["pot", "pool", "many"] spSomeI := by
  refine F.ok scSome (fun vs H Q E h => ?_) (fun cdv A outer s H vs Q E hr h => ?_)
  · obtain ⟨a, b, ns, m, N, rfl, _⟩ := h
    rfl
  · obtain ⟨a, b, ns, m, N, rfl, hP, hb, hN, hm, hl, q⟩ := h
    refine ⟨_, pss_cons (ps_par (i := 3) (j := 4) rfl scSome.nd rfl rfl (by decide) rfl rfl (pa_cons (pe_callTy call_list_of (by rfl) B.list PyProof.Rows.boot_list (pa_cons (pv 1) pa_nil)) (pa_cons (pe_lst pa_nil) pa_nil)) rfl)
      (pss_cons (ps_for PassesOwn.never rfl (pi_range1 (by rfl) B.range (pa_cons (pv 2) pa_nil)) (pg_name (i := 5) scSome.nd rfl (.inl rfl))
        (pss_one (ps_expr (pe_bm PySem.F.plainAttrs_list PySem.F.slot_list_append PySem.F.type_list_append mt_append (pv 4)
          (pa_cons (pe_bm PySem.F.plainAttrs_list PySem.F.slot_list_pop PySem.F.type_list_pop mt_popAt (pv 3) (pa_cons (pe_call GT hr (by rfl) gT kT bT .nil pass0 (pa_cons (pv 0) (pa_cons (pe_callB call_len_seq (by rfl) B.len PySem.boot_len (pa_cons (pv 3) pa_nil)) pa_nil))) pa_nil)) pa_nil)))))
      (pss_one (ps_ret (pv 4)))), ?_⟩
    refine rs_par ?_
    refine ⟨.ref b, rfl, b, ns.map V.int, rfl, .inl (sql_of hb), fun l nl => ⟨Nat.zero_le _, fun fo nfo => ⟨_, _, rfl, ?_⟩⟩⟩
    have s1 : Same H (upd (upd H l (.lst (ns.map V.int))) fo (.lst [])) := (same_upd nl).trans (same_upd nfo)
    have el : (upd (upd H l (.lst (ns.map V.int))) fo (.lst [])) l = some (.lst (ns.map V.int)) := (same_upd nfo) _ _ upd_same
    have efo : (upd (upd H l (.lst (ns.map V.int))) fo (.lst [])) fo = some (.lst []) := upd_same
    have nfl : fo ≠ l := fun e => by rw [e, upd_same] at nfo; cases nfo
    have hfo0 : H fo = none := (same_upd nl).free nfo
    have hla : l ≠ a := fun e => hP.some (e ▸ nl)
    have hfa : fo ≠ a := fun e => hP.some (e ▸ hfo0)
    generalize (upd (upd H l (.lst (ns.map V.int))) fo (.lst [])) = H1 at s1 el efo ⊢
    refine rs_rng 0 (m : Int).toNat (fun H2 => H2 = H1) (fun i σ' H' => ∃ (o5 : Option V) (ls zs : List Int), σ' = [some (.ref a), some (.ref b), some (.int m), some (.ref l), some (.ref fo), o5] ∧ SameX a H H' ∧ Pot H' a (N + i) ∧ H' l = some (.lst (ls.map V.int)) ∧ ls.length + i = ns.length ∧ H' fo = some (.lst (zs.map V.int)) ∧ zs.length = i ∧ (zs ++ ls).Perm ns)
      (fun R hR => ⟨.int m, rfl, m, rfl, by omega, by omega, hR H1 rfl⟩) (fun H2 e => by subst e; exact ⟨_, ns, [], rfl, .of s1, hP.same s1, el, rfl, efo, rfl, List.Perm.refl _⟩) ?_ ?_
    · rintro i σ' H' hi ⟨o5, ls, zs, rfl, sx, hp, el', hll, ef', hzl, hzs⟩
      refine r_gname ?_
      refine ⟨.ref fo, rfl, .inl ⟨rfl, _, sql_of ef'⟩, .ref l, rfl, .inl ⟨rfl, _, sql_of el'⟩, .ref a, rfl, .ref l, rfl, l, ls.map V.int, rfl, .inl (sql_of el'), a, ((ls.map V.int).length : Int), N + i, rfl, hp, by omega, by rw [List.length_map]; omega, by rw [List.length_map]; omega, fun r H2 r0 r1 s2 hp2 => ?_⟩
      rw [List.length_map] at r1
      have hj : r.toNat < ls.length := by omega
      have el2 := s2 _ _ hla el'
      have ef2 := s2 _ _ hfa ef'
      refine ⟨l, ls.map V.int, r, r.toNat, .int ls[r.toNat], rfl, rfl, el2, by omega, by omega, ?_, by rw [List.getElem?_map, List.getElem?_eq_getElem hj]; rfl, ?_⟩
      · rw [List.length_map]; exact PySem.StrLaws.seqIndex_nonneg r0 (by omega)
      have hez : (ls.map V.int).eraseIdx r.toNat = (ls.eraseIdx r.toNat).map V.int := erase_map V.int ls r.toNat
      rw [hez]
      refine ⟨fo, _, _, rfl, rfl, by rw [upd_ne nfl]; exact ef2, small1000 (by rw [List.length_map]; omega), ?_⟩
      refine ⟨_, ls.eraseIdx r.toNat, zs ++ [ls[r.toNat]], rfl, fun c o hc e => ?_, ?_, ?_, ?_, ?_, ?_, ?_⟩
      · have n1 : c ≠ fo := ne_of_none e hfo0
        have n2 : c ≠ l := ne_of_none e nl
        rw [upd_ne n1, upd_ne n2]
        exact s2 _ _ hc (sx _ _ hc e)
      · obtain ⟨xx, yy, zz, e, hh⟩ := hp2.ex
        exact ⟨⟨xx, yy, zz, by rw [upd_ne (Ne.symm hfa), upd_ne (Ne.symm hla)]; exact e, hh⟩⟩
      · rw [upd_ne (Ne.symm nfl), upd_same]
      · rw [List.length_eraseIdx_of_lt hj]; omega
      · rw [upd_same, List.map_append]; rfl
      · rw [List.length_append, hzl]; rfl
      · refine List.Perm.trans ?_ hzs
        rw [List.append_assoc]
        exact List.Perm.append_left _ (erase_perm ls _ hj)
    · rintro σ' H' ⟨o5, ls, zs, rfl, sx, hp, el', hll, ef', hzl, hzs⟩
      have em : (m : Int).toNat = m := Int.toNat_natCast m
      rw [em] at hp hzl
      exact ⟨.ref fo, rfl, q fo zs H' ⟨ls, hzs⟩ hzl hfo0 ef' sx hp⟩
theorem scLTie : FnScope ["one", "other"] ["one", "other"] (defScope sLTie) := ⟨rfl, rfl, rfl, by decide +kernel, rfl, by decide +kernel, by decide +kernel⟩
theorem ok_ltie {f : Addr} {fd : FuncData} {k : Nat} (F : Fun K "_law_tie" "_law_tie" sLTie f fd) (B : Blt mg) : FnOk P w K mg base CX0 (k + 1) f fd ["one", "other"] spLTie := by
  refine F.ok scLTie (fun vs H Q E h => ?_) (fun cdv A outer s H vs Q E hr h => ?_)
  · obtain ⟨a, b, rfl, _⟩ := h
    rfl
  · obtain ⟨a, b, rfl, q⟩ := h
    refine ⟨_, pss_one (ps_ret (pe_tup (pa_cons (pe_callB (call_min2 rfl) (by rfl) B.min PyProof.Rows.boot_min (pa_cons (pv 0) (pa_cons (pv 1) pa_nil))) (pa_cons (pe_callB (call_max2 rfl) (by rfl) B.max PyProof.Rows.boot_max (pa_cons (pv 0) (pa_cons (pv 1) pa_nil))) pa_nil)))), ?_⟩
    refine ⟨.int a, rfl, .int b, rfl, a, b, rfl, .int a, rfl, .int b, rfl, a, b, rfl, by show 2 ≤ sizeLine; decide, fun p np => ?_⟩
    exact q p np
end
end HI

set_option Elab.async false
set_option linter.all false
set_option maxRecDepth 100000
set_option maxHeartbeats 4000000
namespace HI
open PySem L2 PyProof.Rows Hw
abbrev sDrawn : Stmt := topS 32
def rawD (os : List Int) (tos : List Nat) (k : Nat) : List Tie := (List.range k).map fun j => mmT (os.getD (j + 1) 0) (os.getD (tos.getD j 0) 0)
/-- a drawn tree: places in any sequence, each tied to one ahead of it -/
structure Drawn (n : Nat) (ts : List Tie) : Prop where
  ex : ∃ (os : List Int) (tos : List Nat), os.Perm (nsI n) ∧ tos.length + 1 = n ∧ (∀ (j t : Nat), tos[j]? = some t → t ≤ j) ∧ ts = srt (rawD os tos (n - 1))
def spDrawn : Sp := fun vs H Q _ => ∃ (a : Addr) (n N : Nat), vs = [.ref a, .int (n : Nat)] ∧ Pot H a N ∧ N < 1000000 ∧ 1 ≤ n ∧ n ≤ 200 ∧ ∀ (t : Addr) (ts : List Tie) (qs : List Addr) H', Drawn n ts → H t = none → H' t = some (.tup (qs.map V.ref)) → Paired (TieL H') qs ts → SameX a H H' → Pot H' a (N + 2 * n) → Q (.ref t) H'
abbrev nDr : List Str := ["pot", "many", "order", "way", "found", "at", "to"]
theorem rawD_ext {os : List Int} {tos : List Nat} {k t : Nat} (h : tos.length = k) : rawD os (tos ++ [t]) (k + 1) = rawD os tos k ++ [mmT (os.getD (k + 1) 0) (os.getD t 0)] := by
  unfold rawD
  rw [List.range_succ, List.map_append]
  congr 1
  · refine List.map_congr_left fun j hj => ?_
    have hj := List.mem_range.mp hj
    have e : (tos ++ [t]).getD j 0 = tos.getD j 0 := by simp [List.getD, List.getElem?_append_left (show j < tos.length by omega)]
    rw [e]
  · have e : (tos ++ [t]).getD k 0 = t := by
      subst h
      simp [List.getD, List.getElem?_append_right]
    rw [List.map_cons, List.map_nil, e]
section
variable {P : Program} {w : World} {K : PySem.W.Frag} {mg : Str → Option Value} {base : Heap}
theorem scDrawn : FnScope nDr ["pot", "many"] (defScope sDrawn) := ⟨rfl, rfl, rfl, by decide +kernel, rfl, by decide +kernel, by decide +kernel⟩
theorem ok_drawn {f fS fT fL : Addr} {fd fdS fdT fdL : FuncData} {k : Nat} (F : Fun K "_law_drawn_tree" "_law_drawn_tree" sDrawn f fd) (B : Blt mg) (bs : mg "sorted" = none) (bt : mg "tuple" = none)
    (GS : FnOk P w K mg base CX0 k fS fdS ["pot", "pool", "many"] spSomeI) (gS : mg "_law_some" = some (.ref fS)) (kS : PySem.W.keepIn K (.ref fS) = true) (bS : Binds K fdS ["pot", "pool", "many"] [])
    (GT : FnOk P w K mg base CX0 k fT fdT ["pot", "upto"] spTake) (gT : mg "_law_take" = some (.ref fT)) (kT : PySem.W.keepIn K (.ref fT) = true) (bT : Binds K fdT ["pot", "upto"] [])
    (GL : FnOk P w K mg base CX0 k fL fdL ["one", "other"] spLTie) (gL : mg "_law_tie" = some (.ref fL)) (kL : PySem.W.keepIn K (.ref fL) = true) (bL : Binds K fdL ["one", "other"] []) :
    FnOk P w K mg base CX0 (k + 1) f fd ["pot", "many"] spDrawn := by
  refine F.ok scDrawn (fun vs H Q E h => ?_) (fun cdv A outer s H vs Q E hr h => ?_)
  · obtain ⟨a, n, N, rfl, _⟩ := h
    rfl
  · obtain ⟨a, n, N, rfl, hP, hN, n1, n2, q⟩ := h
    have hu64 := hr.units
    refine ⟨_, pss_cons (ps_par3 (i := 2) (j := 3) (l := 4) rfl scDrawn.nd rfl rfl rfl (by decide) (by decide) (by decide) rfl rfl rfl (pa_cons (pe_call GS hr (by rfl) gS kS bS .nil pass0 (pa_cons (pv 0) (pa_cons (pe_listRg rfl (by rfl) B.list (prg_1 (by rfl) B.range (pv 1))) (pa_cons (pv 1) pa_nil))))
          (pa_cons (pe_call GT hr (by rfl) gT kT bT .nil pass0 (pa_cons (pv 0) (pa_cons pe_int pa_nil))) (pa_cons (pe_lst pa_nil) pa_nil))) rfl)
      (pss_cons (ps_for PassesOwn.never rfl (pi_range2 (by rfl) B.range (pa_cons pe_int (pa_cons (pv 1) pa_nil))) (pg_name (i := 5) scDrawn.nd rfl (.inl rfl))
        (pss_cons (ps_set (i := 6) scDrawn.nd rfl (.inl rfl) (pe_ix ix_list (pe_lst (pa_cons (pe_call GT hr (by rfl) gT kT bT .nil pass0 (pa_cons (pv 0) (pa_cons (pv 5) pa_nil))) (pa_cons (pe_op op_sub (pv 5) pe_int) (pa_cons pe_int (pa_cons (pe_op op_fdiv (pe_op op_sub (pv 5) pe_int) pe_int) pa_nil))))) (pv 3) (fun _ _ => rfl)))
        (pss_one (ps_expr (pe_bm PySem.F.plainAttrs_list PySem.F.slot_list_append PySem.F.type_list_append mt_append (pv 4) (pa_cons (pe_call GL hr (by rfl) gL kL bL .nil pass0 (pa_cons (pe_ix ix_list (pv 2) (pv 5) (fun _ _ => rfl)) (pa_cons (pe_ix ix_list (pv 2) (pv 6) (fun _ _ => rfl)) pa_nil))) pa_nil))))))
      (pss_one (ps_ret (pe_callTy call_tuple_of (by rfl) bt PyProof.Rows.boot_tuple (pa_cons (pe_callB (cr_sortB hu64) (by rfl) bs PyProof.Rows.boot_sorted (pa_cons (pv 4) pa_nil)) pa_nil))))), ?_⟩
    refine rs_par3 ?_
    refine ⟨.ref a, rfl, .int (n : Int), rfl, _, rfl, .of_le (by omega) (by omega) (by omega) (by omega), fun p np => ?_⟩
    rw [rg_ns]
    have s1 := same_upd (o := .lst ((nsI n).map V.int)) np
    refine ⟨.int (n : Int), rfl, a, p, nsI n, n, N, rfl, hP.same s1, upd_same, by omega, by rw [ns_len]; exact Nat.le_refl _, by rw [ns_len]; omega, fun pO os H2 hperm hlen nO eO s2 P2 => ?_⟩
    have nO0 : H pO = none := s1.free nO
    have s02 : SameX a H H2 := (SameX.of s1).trans s2
    have hperm : os.Perm (nsI n) := by
      obtain ⟨rs, hp⟩ := hperm
      have e := hp.length_eq
      rw [List.length_append, ns_len, hlen] at e
      have : rs = [] := List.length_eq_zero_iff.mp (by omega)
      rw [this, List.append_nil] at hp
      exact hp
    have nOa : pO ≠ a := fun z => hP.some (z ▸ nO0)
    clear s1 s2 np nO
    refine ⟨.ref a, rfl, a, 4, N + n, rfl, P2, by omega, by decide, by decide, fun w H3 w0 w1 s3 P3 => ⟨Nat.zero_le _, fun pF nF => ⟨_, _, _, rfl, ?_⟩⟩⟩
    have eO3 := s3 _ _ nOa eO
    have s03 := s02.trans s3
    have nFa : pF ≠ a := fun z => P3.some (z ▸ nF)
    have nF0 : H pF = none := by
      cases e : H pF with
      | none => rfl
      | some o => rw [s03 _ _ nFa e] at nF; cases nF
    have nOF : pO ≠ pF := fun z => by rw [z, nF] at eO3; cases eO3
    have s4 := same_upd (o := .lst []) nF
    have eO4 := s4 _ _ eO3
    have eF4 : (upd H3 pF (.lst [])) pF = some (.lst []) := upd_same
    have P4 := P3.same s4
    have s04 : SameX a H (upd H3 pF (.lst [])) := s03.trans (.of s4)
    generalize (upd H3 pF (.lst [])) = H4 at eO4 eF4 P4 s04 ⊢
    clear s4 eO3 s03 s3 P3 nF P2 eO s02
    refine rs_rng 1 ((n : Int) - 1).toNat (fun H' => H' = H4) (fun i σ' H' => ∃ (o5 o6 : Option V) (tos : List Nat) (qs : List Addr), σ' = [some (.ref a), some (.int (n : Nat)), some (.ref pO), some (.int w), some (.ref pF), o5, o6] ∧ SameX a H H' ∧ Pot H' a (N + n + 1 + i) ∧ H' pO = some (.lst (os.map V.int)) ∧ H' pF = some (.lst (qs.map V.ref)) ∧ tos.length = i ∧ (∀ (j t : Nat), tos[j]? = some t → t ≤ j) ∧ Paired (TieL H') qs (rawD os tos i))
      (fun R hR => ⟨.int (n : Int), rfl, 1, n, rfl, ⟨by decide, by decide, by omega, by omega⟩, hR H4 rfl⟩) (fun H' e => by subst e; exact ⟨none, none, [], [], rfl, s04, P4, eO4, eF4, rfl, (fun j t h => by simp at h), .nil⟩) ?_ ?_
    · rintro i σ' H' hi ⟨o5, o6, tos, qs, rfl, sx, P', eO', eF', htl, hto, hq⟩
      refine r_gname ?_
      refine rs_set ?_
      refine ⟨.ref a, rfl, .int (1 + (i : Int)), rfl, a, 1 + (i : Int), N + n + 1 + i, rfl, P', by omega, by omega, by omega, fun r H5 r0 r1 s5 P5 => ?_⟩
      have eO5 := s5 _ _ nOa eO'
      have eF5 := s5 _ _ nFa eF'
      refine ⟨.int (1 + (i : Int)), rfl, _, _, rfl, rfl, .int (1 + (i : Int)), rfl, _, _, rfl, rfl, _, _, rfl, rfl, ⟨by decide, by decide⟩, by show 4 ≤ sizeLine; decide, fun l nl => ?_⟩
      have s6 := same_upd (o := .lst [.int r, .int (1 + (i : Int) - 1), .int 0, .int ((1 + (i : Int) - 1) / 2)]) nl
      obtain ⟨wn, rfl⟩ : ∃ wn : Nat, w = (wn : Int) := ⟨w.toNat, by omega⟩
      obtain ⟨t, ht, hti⟩ : ∃ t : Nat, ([V.int r, .int (1 + (i : Int) - 1), .int 0, .int ((1 + (i : Int) - 1) / 2)] : List V)[wn]? = some (.int (t : Int)) ∧ t ≤ i := by
        have hw : wn < 4 := by omega
        match wn, hw with
        | 0, _ => exact ⟨r.toNat, by show some (V.int r) = _; rw [Int.toNat_of_nonneg r0], by omega⟩
        | 1, _ => exact ⟨i, by show some (V.int (1 + (i : Int) - 1)) = _; rw [show 1 + (i : Int) - 1 = (i : Int) by omega], Nat.le_refl _⟩
        | 2, _ => exact ⟨0, rfl, Nat.zero_le _⟩
        | 3, _ => exact ⟨i / 2, by show some (V.int ((1 + (i : Int) - 1) / 2)) = _; rw [show (1 + (i : Int) - 1) / 2 = ((i / 2 : Nat) : Int) by omega], Nat.div_le_self _ _⟩
      refine ⟨.int (wn : Int), rfl, l, _, (wn : Int), .int (t : Int), rfl, rfl, sql_of upd_same, atI_nat ht, ?_⟩
      have eO6 := s6 _ _ eO5
      have eF6 := s6 _ _ eF5
      have P6 := P5.same s6
      have sx6 : SameX a H (upd H5 l (.lst [.int r, .int (1 + (i : Int) - 1), .int 0, .int ((1 + (i : Int) - 1) / 2)])) := (sx.trans s5).trans (.of s6)
      have hq6 : Paired (TieL (upd H5 l (.lst [.int r, .int (1 + (i : Int) - 1), .int 0, .int ((1 + (i : Int) - 1) / 2)]))) qs (rawD os tos i) := paired_mono (fun q t e => by
        have e : H' q = _ := e
        have hqa : q ≠ a := fun z => by
          obtain ⟨_, _, _, e2, _⟩ := P'.ex
          rw [z, e2] at e; cases e
        exact s6 _ _ (s5 _ _ hqa e)) hq
      generalize (upd H5 l (.lst [.int r, .int (1 + (i : Int) - 1), .int 0, .int ((1 + (i : Int) - 1) / 2)])) = H6 at eO6 eF6 P6 sx6 hq6 ⊢
      clear s6 nl eO5 eF5 s5 P5 hq sx P' eO' eF' ht
      have hol : os.length = n := by rw [hlen]
      have hx : os[i + 1]? = some (os.getD (i + 1) 0) := by
        have : i + 1 < os.length := by omega
        simp [List.getD, List.getElem?_eq_getElem this]
      have hy : os[t]? = some (os.getD t 0) := by
        have : t < os.length := by omega
        simp [List.getD, List.getElem?_eq_getElem this]
      show tDrop _ _ _ _
      refine ⟨.ref pF, rfl, .inl ⟨rfl, _, sql_of eF6⟩, .ref pO, rfl, .int (1 + (i : Int)), rfl, pO, os.map V.int, 1 + (i : Int), .int (os.getD (i + 1) 0), rfl, rfl, sql_of eO6, ?_, .ref pO, rfl, .int (t : Int), rfl, pO, os.map V.int, (t : Int), .int (os.getD t 0), rfl, rfl, sql_of eO6, atI_nat (by rw [List.getElem?_map, hy]; rfl), _, _, rfl, fun p6 np6 => ?_⟩
      · have := atI_nat (xs := os.map V.int) (j := i + 1) (v := .int (os.getD (i + 1) 0)) (by rw [List.getElem?_map, hx]; rfl)
        rw [show ((i + 1 : Nat) : Int) = 1 + (i : Int) by omega] at this
        exact this
      generalize hmm : mmT (os.getD (i + 1) 0) (os.getD t 0) = mt at np6 ⊢
      have s7 := same_upd (o := .tup [.int mt.1, .int mt.2]) np6
      have eF7 := s7 _ _ eF6
      have ne6 : p6 ≠ pF := fun z => by rw [z, eF6] at np6; cases np6
      have hql : qs.length ≤ 200 := by rw [Paired.length hq6]; unfold rawD; rw [List.length_map, List.length_range]; omega
      refine ⟨pF, _, _, rfl, rfl, eF7, smallM2 (by rw [List.length_map]; omega), _, _, tos ++ [t], qs ++ [p6], rfl, fun b o hb e => ?_, ?_, ?_, ?_, ?_, fun j t' hj => ?_, ?_⟩
      · rw [upd_ne (ne_of_none e nF0)]
        exact s7 _ _ (sx6 _ _ hb e)
      · obtain ⟨xx, yy, zz, e, hh⟩ := (P6.same s7).ex
        exact Pot.mono ⟨xx, yy, zz, by rw [upd_ne (Ne.symm nFa)]; exact e, hh⟩ (by omega)
      · rw [upd_ne nOF]
        exact s7 _ _ eO6
      · rw [upd_same, List.map_append]; rfl
      · rw [List.length_append, htl]; rfl
      · by_cases h : j < tos.length
        · rw [List.getElem?_append_left h] at hj
          exact hto j t' hj
        · have hlt := (List.getElem?_eq_some_iff.mp hj).1
          rw [List.length_append, List.length_singleton] at hlt
          obtain rfl : j = tos.length := by omega
          rw [List.getElem?_append_right (Nat.le_refl _), Nat.sub_self] at hj
          obtain rfl : t = t' := by simpa using hj
          omega
      · rw [rawD_ext htl, hmm]
        refine snocP ?_ (paired_mono (fun q t e => ?_) hq6)
        · show (upd _ pF _) p6 = _
          rw [upd_ne ne6, upd_same]
        · have e : H6 q = _ := e
          show (upd _ pF _) q = _
          rw [upd_ne (fun y => by rw [y, eF6] at e; cases e)]
          exact s7 _ _ e
    · rintro σ' H' ⟨o5, o6, tos, qs, rfl, sx, P', eO', eF', htl, hto, hq⟩
      have en : ((n : Int) - 1).toNat = n - 1 := by omega
      rw [en] at htl hq P'
      refine ⟨.ref pF, rfl, ?_⟩
      refine r_sortB ?_
      refine sort_tieG eF' hq (by unfold rawD; rw [List.length_map, List.length_range]; omega) fun p10 qs' n10 hq' => ⟨p10, _, rfl, .inl ⟨sql_of upd_same, fun p11 n11 => ?_⟩⟩
      have s2 := (same_upd (o := .lst (qs'.map V.ref)) n10).trans (same_upd (o := .tup (qs'.map V.ref)) n11)
      have sA : SameX a H (upd (upd H' p10 (.lst (qs'.map V.ref))) p11 (.tup (qs'.map V.ref))) := sx.trans (.of s2)
      refine q p11 _ qs' _ ⟨os, tos, hperm, by omega, hto, rfl⟩ ?_ upd_same (paired_mono (fun q t e => s2 _ _ e) hq') sA ((P'.same s2).mono (by omega))
      have n11' : H' p11 = none := (same_upd n10).free n11
      have nea : p11 ≠ a := fun z => P'.some (z ▸ n11')
      cases e : H p11 with
      | none => rfl
      | some o => rw [sx _ _ nea e] at n11'; cases n11'
end
end HI

set_option Elab.async false
set_option linter.all false
set_option maxRecDepth 100000
set_option maxHeartbeats 4000000
namespace HI
open PySem L2 PyProof.Rows Hw
abbrev sLimFor : Stmt := topS 33
theorem mmT_cases (a b : Int) (h : a ≠ b) : (mmT a b = (a, b) ∧ a < b) ∨ (mmT a b = (b, a) ∧ b < a) := by
  unfold mmT
  rcases Int.lt_trichotomy a b with h1 | h1 | h1
  · left
    rw [if_neg (by omega), if_pos (by omega)]
    exact ⟨rfl, h1⟩
  · exact absurd h1 h
  · right
    rw [if_pos (by omega), if_neg (by omega)]
    exact ⟨rfl, h1⟩
theorem rawD_at {n : Nat} {os : List Int} {tos : List Nat} (hp : os.Perm (nsI n)) (hto : ∀ (j t : Nat), tos[j]? = some t → t ≤ j) (htl : tos.length + 1 = n) {j : Nat} (hj : j < n - 1) :
    os.getD (j + 1) 0 ∈ nsI n ∧ os.getD (tos.getD j 0) 0 ∈ nsI n ∧ os.getD (j + 1) 0 ≠ os.getD (tos.getD j 0) 0 := by
  have hl : os.length = n := by rw [hp.length_eq, ns_len]
  have ht : tos[j]? = some (tos.getD j 0) := by
    have : j < tos.length := by omega
    simp [List.getD, List.getElem?_eq_getElem this]
  have h1 : j + 1 < os.length := by omega
  have h2 : tos.getD j 0 < os.length := by
    have := hto j _ ht
    omega
  have h3 : tos.getD j 0 < j + 1 := by
    have := hto j _ ht
    omega
  have e1 : os.getD (j + 1) 0 = os[j + 1] := by simp [List.getD, List.getElem?_eq_getElem h1]
  have e2 : os.getD (tos.getD j 0) 0 = os[tos.getD j 0] := by
    generalize tos.getD j 0 = m at h2
    simp [List.getD, List.getElem?_eq_getElem h2]
  rw [e1, e2]
  have nd : os.Nodup := hp.nodup_iff.mpr (ns_nd n)
  exact ⟨hp.mem_iff.mp (List.getElem_mem h1), hp.mem_iff.mp (List.getElem_mem h2), fun z => nodup_ne nd h2 h1 h3 z.symm⟩
theorem drawn_fine {n : Nat} {ts : List Tie} (n1 : 1 ≤ n) (n2 : n ≤ 200) (d : Drawn n ts) : FineW (nsI n) ts ∧ ts.length + 1 = n := by
  obtain ⟨os, tos, hp, htl, hto, rfl⟩ := d.ex
  have hl : (srt (rawD os tos (n - 1))).length = n - 1 := by rw [srt_len]; unfold rawD; rw [List.length_map, List.length_range]
  refine ⟨⟨ns_nd n, by rw [ns_len]; exact n2, fun t ht => ?_, by omega⟩, by omega⟩
  have ht := (srt_perm _).mem_iff.mp ht
  unfold rawD at ht
  obtain ⟨j, hj, rfl⟩ := List.mem_map.mp ht
  obtain ⟨a, b, c⟩ := rawD_at hp hto htl (List.mem_range.mp hj)
  rcases mmT_cases _ _ c with ⟨e, h⟩ | ⟨e, h⟩
  · rw [e]; exact ⟨a, b, h⟩
  · rw [e]; exact ⟨b, a, h⟩
def spTreeNearF : Sp := fun vs H Q _ => ∃ (tl : Addr) (n : Nat) (ts : List Tie) (qs : List Addr), vs = [.int (n : Nat), .ref tl] ∧ n ≤ 200 ∧ FineW (nsI n) ts ∧ H tl = some (.tup (qs.map V.ref)) ∧ Paired (TieL H) qs ts ∧
  ∀ d f H', Same H H' → NearL f H' d (nsI n) (nbr ts) → H d = none → (∀ x ∈ nsI n, H (f x) = none) → Q (.ref d) H'
def spLimFor : Sp := fun vs H Q _ => ∃ (a tl l : Addr) (n N : Nat) (ts : List Tie) (qs : List Addr) (ms : List Int), vs = [.ref a, .int (n : Nat), .ref tl, .ref l] ∧ Pot H a N ∧ N < 1000000 ∧ n ≤ 200 ∧ FineW (nsI n) ts ∧ H tl = some (.tup (qs.map V.ref)) ∧ Paired (TieL H) qs ts ∧ H l = some (.lst (ms.map V.int)) ∧ a ≠ l ∧ 0 < ms.length ∧ ms.length ≤ 1000 ∧
  ∀ (t : Addr) (ls : List Int) H', ls.length = n → (∀ i, i < n → ∃ m ∈ ms, ls.getD i 0 = ((nbr ts (i : Nat)).length : Int) + m) → H t = none → H' t = some (.tup (ls.map V.int)) → SameX a H H' → Pot H' a (N + n) → Q (.ref t) H'
abbrev nLF : List Str := ["pot", "many", "ties", "more", "near", "at"]
section
variable {P : Program} {w : World} {K : PySem.W.Frag} {mg : Str → Option Value} {base : Heap}
theorem ok_ltnF {f fN : Addr} {fd fdN : FuncData} {k : Nat} (F : Fun K "_law_tree_near" "_law_tree_near" sLTN f fd) (B : Blt mg)
    (GN : FnOk P w K mg base CX0 k fN fdN ["places", "ties"] spTied) (gN : mg "_law_near" = some (.ref fN)) (kN : PySem.W.keepIn K (.ref fN) = true) (bN : Binds K fdN ["places", "ties"] []) : FnOk P w K mg base CX0 (k + 1) f fd ["many", "ties"] spTreeNearF := by
  refine F.ok scLTN (fun vs H Q E h => ?_) (fun cdv A outer s H vs Q E hr h => ?_)
  · obtain ⟨tl, n, ts, qs, rfl, _⟩ := h
    rfl
  · obtain ⟨tl, n, ts, qs, rfl, n2, fine, et, hq, q⟩ := h
    refine ⟨_, pss_one (ps_ret (pe_call GN hr (by rfl) gN kN bN .nil pass0 (pa_cons (pe_listRg rfl (by rfl) B.list (prg_1 (by rfl) B.range (pv 0))) (pa_cons (pv 1) pa_nil)))), ?_⟩
    refine r_ret ?_
    refine ⟨.int (n : Int), rfl, _, rfl, .of_le (by omega) (by omega) (by omega) (by omega), fun p np => ?_⟩
    rw [rg_ns]
    have s1 := same_upd (o := .lst ((nsI n).map V.int)) np
    exact ⟨.ref tl, rfl, p, tl, nsI n, ts, qs, rfl, fine, upd_same, s1 _ _ et, paired_mono (fun q t e => s1 _ _ e) hq, fun D fa H2 s2 nl nD nf => q D fa H2 (s1.trans s2) nl (s1.free nD) fun x hx => s1.free (nf x hx)⟩
theorem scLimFor : FnScope nLF ["pot", "many", "ties", "more"] (defScope sLimFor) := ⟨rfl, rfl, rfl, by decide +kernel, rfl, by decide +kernel, by decide +kernel⟩
theorem ok_limfor {f fN fO : Addr} {fd fdN fdO : FuncData} {k : Nat} (F : Fun K "_law_limits_for" "_law_limits_for" sLimFor f fd) (B : Blt mg) (bt : mg "tuple" = none)
    (GN : FnOk P w K mg base CX0 k fN fdN ["many", "ties"] spTreeNearF) (gN : mg "_law_tree_near" = some (.ref fN)) (kN : PySem.W.keepIn K (.ref fN) = true) (bN : Binds K fdN ["many", "ties"] [])
    (GO : FnOk P w K mg base CX0 k fO fdO ["pot", "some"] (spOf2 K)) (gO : mg "_law_of" = some (.ref fO)) (kO : PySem.W.keepIn K (.ref fO) = true) (bO : Binds K fdO ["pot", "some"] []) :
    FnOk P w K mg base CX0 (k + 1) f fd ["pot", "many", "ties", "more"] spLimFor := by
  refine F.ok scLimFor (fun vs H Q E h => ?_) (fun cdv A outer s H vs Q E hr h => ?_)
  · obtain ⟨a, tl, l, n, N, ts, qs, ms, rfl, _⟩ := h
    rfl
  · obtain ⟨a, tl, l, n, N, ts, qs, ms, rfl, hP, hN, n2, fine, et, hq, el, nal, m0, m1, q⟩ := h
    have hu := hu_of hr
    refine ⟨_, pss_cons (ps_set (i := 4) scLimFor.nd rfl (.inr rfl) (pe_call GN hr (by rfl) gN kN bN .nil pass0 (pa_cons (pv 1) (pa_cons (pv 2) pa_nil))))
      (pss_one (ps_ret (pe_callTy call_tuple_of (by rfl) bt PyProof.Rows.boot_tuple (pa_cons (pe_lc (own := [("at", 5)]) (g := gName 5) (tt := tYes) (te := tCB _ (tCons (tOp (rI0 fun i j => V.int (i + j)) (tCB (rLenS K) (tCons (tDGet (tVar 4) (tVar 5)) tNil)) (tCall (spOf2 K) [] E0 (tCons (tVar 0) (tCons (tVar 3) tNil)))) tNil)) rfl scLimFor.nd (pi_range1 (by rfl) B.range (pa_cons (pv 1) pa_nil))
          (blkOk_by (N := nLF) (sc := defScope sLimFor) (by decide +kernel)) (fun _ _ _ _ _ => pg_name (i := 5) scLimFor.nd rfl (Or.inl rfl)) (fun _ _ _ _ _ => pts_nil)
          (fun _ _ _ _ _ => pe_callTy call_int1 (by rfl) B.int PyProof.Rows.boot_int (pa_cons (pe_op op_add (pe_callB call_lenS (by rfl) B.len PySem.boot_len (pa_cons (pe_dget hu (pv 4) (pv 5) (fun _ _ => rfl)) pa_nil)) (pe_call GO hr (by rfl) gO kO bO .nil pass0 (pa_cons (pv 0) (pa_cons (pv 3) pa_nil)))) pa_nil))) pa_nil)))), ?_⟩
    refine rs_set ?_
    refine ⟨.int (n : Int), rfl, .ref tl, rfl, tl, n, ts, qs, rfl, n2, fine, et, hq, fun Dn fa H1 s1 nl nDn nfa => ?_⟩
    have P1 := hP.same s1
    have el1 := s1 _ _ el
    refine r_ret ?_
    refine ⟨.int (n : Int), rfl, _, rfl, by omega, by omega, fun D2 nD2 => ?_⟩
    have nDa : D2 ≠ a := fun z => P1.some (z ▸ nD2)
    refine L2.lc_range (lo := 0) (fun i H' => SameX a H1 H' ∧ Pot H' a (N + i) ∧ ∃ ls : List Int, H' D2 = some (.lst (ls.map V.int)) ∧ ls.length = i ∧ ∀ j, j < i → ∃ m ∈ ms, ls.getD j 0 = ((nbr ts (j : Nat)).length : Int) + m)
      ⟨.of (same_upd nD2), P1.same (same_upd nD2), [], upd_same, rfl, fun j hj => absurd hj (Nat.not_lt_zero _)⟩ ?_ ?_
    · rintro i H' hi ⟨sx, P', ls, eD2, hll, hls⟩
      have hi' : i < n := by omega
      have hin : (0 + (i : Int)) ∈ nsI n := by rw [Int.zero_add]; exact mem_ns hi'
      have nfa' : ∀ x ∈ nsI n, fa x ≠ a := fun x hx z => hP.some (z ▸ nfa x hx)
      have nDn' : Dn ≠ a := fun z => hP.some (z ▸ nDn)
      have nlx : NearL fa H' Dn (nsI n) (nbr ts) := ⟨sx _ _ nDn' nl.dict, fun m hm => sx _ _ (nfa' m hm) (nl.lst m hm), nl.inj⟩
      refine ⟨rfl, r_yes ?_⟩
      refine ⟨.ref Dn, rfl, .int (0 + (i : Int)), rfl, Dn, _, rfl, nlx.get hin, fa (0 + (i : Int)), _, rfl, .inl (sql_of (nlx.lst _ hin)), .ref a, rfl, .ref l, rfl, .inl ⟨a, l, ms.map V.int, N + i, rfl, P', by omega, sql_of (sx _ _ (Ne.symm nal) el1), nal, by rw [List.length_map]; exact m0, by rw [List.length_map]; omega, fun r v H3 hv s3 P3 => ?_⟩⟩
      obtain ⟨m, hm, rfl⟩ := Hw.map_get hv
      rw [List.length_map, Int.zero_add]
      refine ⟨_, _, rfl, rfl, .inl ⟨_, rfl, _, s3 _ _ nDa eD2, smallM2 (by rw [List.length_map]; omega), fun b o hb e => ?_, ?_, ls ++ [((nbr ts (i : Nat)).length : Int) + m], ?_, ?_, fun j hj => ?_⟩⟩
      · rw [upd_ne (ne_of_none e nD2)]
        exact s3 _ _ hb (sx _ _ hb e)
      · obtain ⟨xx, yy, zz, e, hh⟩ := P3.ex
        exact Pot.mono ⟨xx, yy, zz, by rw [upd_ne (Ne.symm nDa)]; exact e, hh⟩ (by omega)
      · rw [upd_same, List.map_append]; rfl
      · rw [List.length_append, hll]; rfl
      · by_cases h : j < i
        · obtain ⟨m', hm', e⟩ := hls j h
          refine ⟨m', hm', ?_⟩
          rw [← e]
          simp [List.getD, List.getElem?_append_left (show j < ls.length by omega)]
        · obtain rfl : j = i := by omega
          refine ⟨m, List.mem_of_getElem? hm, ?_⟩
          subst hll
          simp [List.getD, List.getElem?_append_right]
    · rintro H2 ⟨sx, P', ls, eD2, hll, hls⟩
      rw [Int.toNat_natCast] at hll hls P'
      refine ⟨D2, _, rfl, .inl ⟨sql_of eD2, fun t nt => ?_⟩⟩
      have s3 := same_upd (o := .tup (ls.map V.int)) nt
      have sA : SameX a H (upd H2 t (.tup (ls.map V.int))) := ((SameX.of s1).trans sx).trans (.of s3)
      refine q t ls _ hll hls ?_ upd_same sA (P'.same s3)
      have nea : t ≠ a := fun z => P'.some (z ▸ nt)
      cases e : H t with
      | none => rfl
      | some o => rw [sx _ _ nea (s1 _ _ e)] at nt; cases nt
end
end HI

set_option Elab.async false
set_option linter.all false
set_option maxRecDepth 100000
set_option maxHeartbeats 4000000
namespace Hw
open PySem L2 PyProof.Rows
/-! min of a tuple of ints -/
def minI (x : Int) (xs : List Int) : Int := xs.foldl (fun a y => if y < a then y else a) x
theorem minI_spec : ∀ (xs : List Int) (x : Int), minI x xs ∈ x :: xs ∧ ∀ y ∈ x :: xs, minI x xs ≤ y
  | [], x => ⟨List.mem_cons_self, fun y hy => by rw [List.mem_singleton.mp hy]; exact Int.le_refl _⟩
  | z :: xs, x => by
    unfold minI
    rw [List.foldl_cons]
    have ih := minI_spec xs (if z < x then z else x)
    unfold minI at ih
    obtain ⟨h1, h2⟩ := ih
    generalize hm : (if z < x then z else x) = m at h1 h2 ⊢
    have hmm : (m = z ∨ m = x) ∧ m ≤ z ∧ m ≤ x := by
      rw [← hm]
      split
      · exact ⟨.inl rfl, by omega, by omega⟩
      · exact ⟨.inr rfl, by omega, by omega⟩
    have h0 := h2 m List.mem_cons_self
    refine ⟨?_, fun y hy => ?_⟩
    · rcases List.mem_cons.mp h1 with e | e
      · rw [e]
        rcases hmm.1 with e | e
        · rw [e]; exact List.mem_cons_of_mem _ List.mem_cons_self
        · rw [e]; exact List.mem_cons_self
      · exact List.mem_cons_of_mem _ (List.mem_cons_of_mem _ e)
    · rcases List.mem_cons.mp hy with e | hy
      · rw [e]; exact Int.le_trans h0 hmm.2.2
      · rcases List.mem_cons.mp hy with e | hy
        · rw [e]; exact Int.le_trans h0 hmm.2.1
        · exact h2 y (List.mem_cons_of_mem _ hy)
theorem minD_ints (x : Int) (xs : List Int) : PySem.W.minD (.int x) (xs.map PyData.int) = .int (minI x xs) := by
  unfold PySem.W.minD minI
  induction xs generalizing x with
  | nil => rfl
  | cons y xs ih =>
    rw [List.map_cons, List.foldl_cons, List.foldl_cons, PySem.W.dataLt_int]
    by_cases h : y < x
    · rw [if_pos h, if_pos (decide_eq_true h)]; exact ih y
    · rw [if_neg h, if_neg (by simpa using h)]; exact ih x
theorem ints_reads {h : Heap} : ∀ {ns : List Int} {us : List Value}, Vals (ns.map V.int) us → ReadsAll h us (ns.map PyData.int) []
  | [], _, r => by cases r; exact .nil
  | n :: ns, _, r => by
    cases r with
    | cons r1 r2 =>
      obtain ⟨t, rfl⟩ := r1
      exact (ReadsAll.cons (.int n t) (ints_reads r2) : ReadsAll h _ _ ([] ++ []))
def rMinT (K : PySem.W.Frag) : List V → Hp → VK → Prop := fun vs H Q => ∃ (a : Addr) (ns : List Int), vs = [V.ref a] ∧ SqT K H a (ns.map V.int) ∧ 0 < ns.length ∧ ∀ m, m ∈ ns → (∀ y, y ∈ ns → m ≤ y) → Q (.int m) H
theorem cr_minT {X : Cx} (hc : X.calm = true) (hu : X.A.units + 64 < cLine) : CallR X (.builtin "min") (rMinT X.K) := by
  intro pins s σ H vs us Q I r h
  obtain ⟨a, ns, rfl, hs, hne, q⟩ := h
  obtain ⟨its, rv, hl, _⟩ := I.tuple hs
  rw [Vals.ref1 r]
  cases ns with
  | nil => exact absurd hne (by simp)
  | cons n ns =>
    have hr : ReadsAll s.heap its.toArray.toList (.int n :: ns.map PyData.int) [] := ints_reads rv
    have hal : PySem.W.AlikeAll (.int n :: ns.map PyData.int) := by
      have e : (PyData.int n :: ns.map PyData.int) = (n :: ns).map PyData.int := rfl
      rw [e]
      refine ⟨fun d hd d' hd' => ?_, fun d hd => ?_⟩
      · obtain ⟨x, _, rfl⟩ := List.mem_map.mp hd
        obtain ⟨y, _, rfl⟩ := List.mem_map.mp hd'
        simp [PySem.W.alike]
      · obtain ⟨x, _, rfl⟩ := List.mem_map.mp hd
        exact fun e => nomatch e
    have hdep : PyData.depthAll (.int n :: ns.map PyData.int) ≤ 50 := depthAll_le50 (ds := (n :: ns).map PyData.int) fun d hd => by
      obtain ⟨x, _, rfl⟩ := List.mem_map.mp hd
      simp [PyData.depth]
    refine PySem.W.min_tuple_data (I.ok.hd hc) hl hr hal (by omega) fun i v h' tk bs hv hR hk => ?_
    rw [minD_ints] at hR
    obtain ⟨m1, m2⟩ := minI_spec ns n
    cases hR with
    | int i t => exact ⟨.int (minI n ns), H, I.kept hk, ⟨t, rfl⟩, q _ m1 m2⟩
end Hw

set_option Elab.async false
set_option linter.all false
set_option maxRecDepth 100000
set_option maxHeartbeats 4000000
namespace Hw
open PySem PySem.Spec L2 PyProof PyProof.Rows HotX
/-! a pair as the target of a comprehension while an exception is handled -/
section
variable {prog : Program} {w : World} {A : Around} {E : Value → Shared → Prop} {s : Shared}
/-- a tuple's iterator ends while an exception is handled -/
theorem tuple_end_hot {it l x1 : Addr} {i : Nat} {items : Array Value} {Q : Option Value → Shared → Prop} (hot : HotAt A x1 s.heap) (hne : x1 ≠ it) (hit : IsTupIter s.heap it l i) (hl : IsTup s.heap l items) (hx : items[i]? = none)
    (hQ : ∀ h', (∀ b o, b ≠ it → s.heap.get? b = some o → h'.get? b = some o) → Q none { s with heap := h' }) : wpAny (model prog w) A (pyNext (.ref it)) Q E s := by
  obtain ⟨o, ho, hc, hd⟩ := id hit
  obtain ⟨ol, hol, _, nl, hdl⟩ := hl
  obtain ⟨hh, o1, vs1, h1, d1, c1⟩ := hot
  unfold pyNext
  refine wpAny_bind (wpAny_attempt (wpAny_callSpecial?_slot (name := Str.ofString "__next__") hit.typeIs slot_tupleiter_next
    (wpAny_call_entry slot_tupleiter_next hit.typeIs entry_tupleiter_next ?_ (args_tupleiter_next _))))
  show wpAny _ _ (field (.ref it) 0 >>= _) _ _ s
  refine wpAny_bind (wpAny_field ho hd (x := .ref l) rfl ?_)
  show wpAny _ _ (if (Value.ref l == Value.none) = true then _ else _) _ _ s
  rw [if_neg (show ¬ ((Value.ref l == Value.none) = true) from Bool.false_ne_true)]
  show wpAny _ _ (field (.ref it) 1 >>= _) _ _ s
  refine wpAny_bind (wpAny_field ho hd (x := .int i 0) rfl ?_)
  show wpAny _ _ (seqItems? (.ref l) >>= _) _ _ s
  refine wpAny_bind (wpAny_seqItems hol hdl ?_)
  simp only [Int.toNat_natCast, hx]
  refine wpAny_bind (wpAny_rule (wpAny_bind (wpAny_setField ho hd (by simp) ?_)))
  show wpAny _ _ (newExc (.type "StopIteration") [] >>= _) _ _ _
  refine wpAny_bind ?_
  simp only [newExc, newTuple]
  refine wpAny_bind (wpAny_newObj_type ?_ (by size_fits))
  refine wpAny_bind (m := firstArgMember _ _) (wpAny_of_eq (a := Value.none) (by first | rfl | (simp only [firstArgMember]; rfl)) ?_)
  refine wpAny_newObj_type ?_ (by size_fits)
  have hu := (Heap.get?_update_other s.heap (Obj.mapFields (·.setIfInBounds 0 Value.none)) (Ne.symm hne)).trans h1
  refine raiseNew_hot ⟨hh, o1, vs1, Heap.get?_push_of_some _ (Heap.get?_push_of_some _ hu), d1, c1⟩ (Nat.ne_of_lt (Heap.lt_size (Heap.get?_push_of_some _ hu))) (Heap.get?_push_size _ rfl) rfl (by first | (simp; done) | (simp; omega) | (simp only [Array.size_append]; simp; omega)) ?_
  refine wpAny_bind (wpAny_isInstance (T := "StopIteration") (b := true) ⟨_, Heap.get?_update_self _ (Heap.get?_push_size _ rfl) rfl, rfl⟩ isSubtype_stop ?_)
  refine wpAny_pure (hQ _ fun b o hb e => ?_)
  have eu := (Heap.get?_update_other s.heap (Obj.mapFields (·.setIfInBounds 0 Value.none)) (Ne.symm hb)).trans e
  rw [Heap.get?_update_other _ _ (Nat.ne_of_gt (Heap.lt_size (Heap.get?_push_of_some _ eu)))]
  exact Heap.get?_push_of_some _ (Heap.get?_push_of_some _ eu)
theorem hot_ext {A : Around} {x1 it : Addr} {h h' : Heap} (hot : HotAt A x1 h) (hne : x1 ≠ it) (k : ∀ b o, b ≠ it → h.get? b = some o → h'.get? b = some o) : HotAt A x1 h' := by
  obtain ⟨hh, o, vs, e, d, c⟩ := hot
  exact ⟨hh, o, vs, k _ _ hne e, d, c⟩
theorem unpackItems_tupleW {x1 t : Addr} {items : Array Value} {Q : List Value → Shared → Prop} (hot : HotAt A x1 s.heap) (ht : IsTup s.heap t items)
    (hQ : ∀ h', Heap.ExtBut s.heap.objs.size s.heap h' → Q items.toList { s with heap := h' }) : wpAny (model prog w) A (unpackItems (.ref t) items.size none) Q E s := by
  have hlt : t ≠ s.heap.objs.size := by obtain ⟨o, ho, _⟩ := ht; exact Nat.ne_of_lt (Heap.lt_size ho)
  have hx1 : x1 ≠ s.heap.objs.size := by obtain ⟨_, o, _, ho, _⟩ := hot; exact Nat.ne_of_lt (Heap.lt_size ho)
  unfold unpackItems
  refine wpAny_bind ?_
  · unfold notIterableAtAll
    refine wpAny_bind (wpAny_specialOf ht.typeIs slot_tuple_iter.lookup ?_)
    refine wpAny_pure ?_
    simp only [Bool.false_eq_true, if_false]
    refine wpAny_bind (wpAny_holding (iter_tuple ht ?_))
    refine wpAny_bind (wpAny_holding (draw_tuple hlt items.size 0 _ _ ⟨_, Heap.get?_push_size _ rfl, rfl, rfl⟩ (ht.push _) (by omega) fun h₁ hit₁ hs₁ => ?_))
    have hall : List.take items.size (List.drop 0 items.toList) = items.toList := by
      rw [List.drop_zero]; exact List.take_of_length_le (by simp)
    rw [hall]
    rw [if_neg (by simp)]
    have ht₁ : IsTup h₁ t items := (ht.push _).extBut hs₁.extBut hlt
    have hot₁ : HotAt A x1 h₁ := hot_ext hot hx1 fun b o hb e => hs₁.extBut b o hb (Heap.get?_push_of_some _ e)
    refine wpAny_bind (wpAny_holding (tuple_end_hot hot₁ hx1 hit₁ ht₁ (by simp) fun h₂ he₂ => ?_))
    simp only [Option.isSome_none, Bool.false_eq_true, if_false]
    refine wpAny_pure (hQ h₂ fun b o hb e => he₂ b o hb (hs₁.extBut b o hb (Heap.get?_push_of_some _ e)))
theorem assign_Tuple_tupleW {x1 : Addr} {env : Env} {elts : List Expr} {k1} {pos : Pos} {t : Addr} {items : Array Value} {Q : Unit → Shared → Prop} (hot : HotAt A x1 s.heap) (ht : IsTup s.heap t items)
    (hn : (assignEach elts env).length = items.size) (hstar : (assignEach elts env).findIdx? (·.1) = none)
    (h : ∀ h', Heap.ExtBut s.heap.objs.size s.heap h' → wpAny (model prog w) A (assignInOrder ((assignEach elts env).map (·.2)) items.toList) Q E { s with heap := h' }) :
    wpAny (model prog w) A (assign (.Tuple elts k1 pos) env (.ref t)) Q E s := by
  rw [assign_Tuple]
  refine wpAny_bind (wpAny_standAt ?_)
  unfold unpack
  rw [hn, hstar]
  exact wpAny_bind (wpAny_holding (unpackItems_tupleW hot ht h))
end
/-- a target, where the handled exception is among the pins -/
structure PGW (X : Cx) (p : Addr × Obj) (tg : Expr) (g : TG) : Prop where
  run : ∀ (pins : List (Addr × Obj)) (s : Shared) (σ : L2.St) (H : Hp) (v : V) (u : Value) (Q : L2.St → Hp → Prop), p ∈ pins → Inv X pins σ H s → RelV v u → g v σ H Q → wpAny (model X.prog X.w) X.A (assign tg X.env u) (fun _ s' => ∃ σ' H', Inv X pins σ' H' s' ∧ Q σ' H') X.xe s
theorem PGW.of {X : Cx} {p : Addr × Obj} {tg : Expr} {g : TG} (h : PG X tg g) : PGW X p tg g := ⟨fun pins s σ H v u Q _ I r hg => h.run pins s σ H v u Q I r hg⟩
theorem pg_tupW {X : Cx} {p : Addr × Obj} {es : List Expr} {k : Nat} {t : TGs} {n : Nat} {pos : Pos} (hot : L2H.Hot1 X.A p) (h : PGs X es t)
    (hn : (assignEach es X.env).length = n := by rfl) (hst : (assignEach es X.env).findIdx? (·.1) = none := by rfl) : PGW X p (.Tuple es k pos) (gTup X.K n t) := by
  refine ⟨fun pins s σ H v u Q hp I r hw => ?_⟩
  obtain ⟨a, xs, e1, hq, hl, hw⟩ := hw
  subst e1
  cases r
  obtain ⟨its, rv, ht, hz⟩ := I.tuple hq
  have ha : HotAt X.A p.1 s.heap := by
    obtain ⟨hh, vs, d, c⟩ := hot
    exact ⟨hh, p.2, vs, (I.pin p (List.mem_append_right _ hp)).1, d, c⟩
  refine assign_Tuple_tupleW ha ht (by simp [hn, ← hl, rv.length]) hst fun h' hx => ?_
  have I1 : Inv X pins σ H { s with heap := h' } := I.kept (t' := s.toks) fun b o e => hx b o (Nat.ne_of_lt (Heap.lt_size e)) e
  exact h.run pins _ σ H xs _ Q I1 (by simpa using rv) hw
/-- as tLc, the new list being no module table -/
def tLcB (wi : TI) (g : TG) (tt : TT) (te : TE) (vs : List Nat) : TE := fun σ H Q => tLc wi g tt te vs σ H fun x H' => x ≠ .ref sysModules → Q x H'
def tLstB (t : TA) : TE := fun σ H Q => t σ H fun xs H1 => xs.length ≤ sizeLine ∧ ∀ p, H1 p = none → p ≠ sysModules → Q (.ref p) (upd H1 p (.lst xs))
section
variable {X : Cx}
theorem pe_lstB {es : List Expr} {t : TA} {pos : Pos} (h : PA X es t) : PE X (.List es pos) (tLstB t) := by
  refine ⟨fun pins s σ H Q I hq => ?_⟩
  refine wpAny_List_spliced (thn (h.run pos pins s σ H _ I hq) fun us s1 ⟨xs, H1, I1, r, z, q⟩ => ⟨by rw [← r.length]; exact z, ?_⟩)
  have hf : H1 s1.heap.objs.size = none := I1.hok.fresh (Nat.le_refl _)
  refine ⟨.ref s1.heap.objs.size, upd H1 s1.heap.objs.size (.lst xs), I1.laid (t' := s1.toks) (fun b u e => Heap.get?_push_of_some _ e) (Nat.le_refl _) ?_, rfl, q _ hf (Nat.ne_of_gt I1.big)⟩
  exact ⟨z, us, 0, r, Heap.get?_push_size _ rfl⟩
/-- repr of None or of ([a text], data) -/
def rReprP : List V → Hp → VK → Prop := fun xs H Q => ∃ x : V, xs = [x] ∧ ((x = .non ∧ Q (.str PyData.none.shown) H) ∨ ∃ (tp l : Addr) (v : V) (a : Addr) (d : PyData) (z : Str), x = .ref tp ∧ H tp = some (.tup [.ref l, v]) ∧ H l = some (.lst [.str z]) ∧ l ≠ sysModules ∧ Dx a H v d ∧ fineD d = true ∧
  (PyData.tuple [.list [.str z], d]).showable = true ∧ (PyData.tuple [.list [.str z], d]).depth ≤ 60 ∧ (PyData.tuple [.list [.str z], d]).shown.length ≤ 2000 ∧ Q (.str (PyData.tuple [.list [.str z], d]).shown) H)
theorem dx_reads {pins : List (Addr × Obj)} {σ : L2.St} {H : Hp} {s : Shared} {a : Addr} {v : V} {d : PyData} {u : Value} (I : Inv X pins σ H s) (x : Dx a H v d) (hf : fineD d = true) (r : RelV v u) : ∃ as, Reads s.heap u d as ∧ (d.hasDict = true → sysModules ∉ as) := by
  unfold fineD at hf
  simp only [Bool.and_eq_true] at hf
  obtain ⟨_, _, _, hf⟩ := hf
  by_cases hdict : ∃ ds, d = .dict ds
  · obtain ⟨ds, rfl⟩ := hdict
    cases x with
    | flat e => cases v <;> cases e
    | @dct p kvs _ h1 h2 h3 h4 =>
      cases r
      obtain ⟨hl, hsys, vs, kv, o, es, ep, ho, hex, hdat, _, hpr, _⟩ := dk_of I.hok h1
      obtain ⟨r1, r2⟩ := dict_reads (h := s.heap) h4 kv hpr
      refine ⟨_, .dict ho hex.1 hdat r1 r2, fun _ hm => ?_⟩
      have e : sysModules = p := by simpa using hm
      rw [← e] at hsys
      simp at hsys
  · have hf' : (!d.hasDict && (SeqAt.shaped d && PyData.eqv d d)) = true := by
      revert hf
      cases d with
      | dict ds => exact absurd ⟨ds, rfl⟩ hdict
      | _ => exact fun z => z
    simp only [Bool.and_eq_true, Bool.not_eq_true'] at hf'
    obtain ⟨as, r1⟩ := Dp.reads I d v u (Dx.dp X.K _ d hf'.1 x) r
    exact ⟨as, r1, fun z => by rw [hf'.1] at z; cases z⟩
theorem call_reprP (hg : X.A.guards = some []) (hu : X.A.units + 100 < cLine) : CallR X (.builtin "repr") rReprP := by
  intro pins s σ H xs us Q I r h
  obtain ⟨x, rfl, h⟩ := h
  obtain ⟨u, rfl, ru⟩ : ∃ u, us = [u] ∧ RelV x u := by
    cases r with
    | cons a t => cases t; exact ⟨_, rfl, a⟩
  have fin : ∀ (z : Str), Q (.str z) H → ∀ h' (tk : Tok) (tk' : Nat), (∀ b o, s.heap.get? b = some o → h'.get? b = some o) → EP X pins σ Q (.str z tk) { s with heap := h', toks := tk' } := fun z q h' tk tk' k => ⟨.str z, H, I.kept (t' := tk') k, ⟨tk, rfl⟩, q⟩
  rcases h with ⟨rfl, q⟩ | ⟨tp, l, v, a, d, z, rfl, e1, e2, nl, xd, hf, hs, hdp, hz, q⟩
  · cases ru
    exact P.repr_of_none (fin _ q s.heap _ _ fun _ _ e => e)
  · cases ru
    obtain ⟨its, rv, p, _⟩ := I.tuple (sqt_of (K := X.K) e1)
    obtain ⟨itl, rl, pl, _⟩ := I.list (sql_of (K := X.K) e2)
    cases rv with
    | cons r1 rr =>
      cases rr with
      | cons r2 rr =>
        cases rr
        cases r1
        cases rl with
        | cons r3 rr =>
          cases rr
          obtain ⟨t3, rfl⟩ := r3
          obtain ⟨as, rd, hm⟩ := dx_reads I xd hf r2
          obtain ⟨o, ho, hc, n, hd⟩ := p
          obtain ⟨ol, hol, hcl, nl', hdl⟩ := pl.isList
          have R1 : Reads s.heap (.ref l) (.list [.str z]) [l] := .list (as := []) hol hcl hdl (ReadsAll.cons (.str z t3) .nil : ReadsAll s.heap _ _ ([] ++ []))
          have R2 : Reads s.heap (.ref tp) (.tuple [.list [.str z], d]) ([l] ++ (as ++ [])) := .tuple ho hc hd (ReadsAll.cons R1 (ReadsAll.cons rd .nil))
          refine repr_of_reads' (h₀ := s.heap) R2 hs (fun hd' hm' => ?_) hg (by omega) (fun _ _ e => e) (fun h' u tk k => fin _ q h' u tk k) (Nat.le_trans hz (by decide))
          have hdd : d.hasDict = true := by simpa [PyData.hasDict, PyData.hasDictAll] using hd'
          rcases List.mem_append.mp hm' with z | z
          · exact nl (List.mem_singleton.mp z).symm
          · rw [List.append_nil] at z
            exact hm hdd z
theorem lc_coreW2 {pins : List (Addr × Obj)} {s : Shared} {σ : L2.St} {H : Hp} {Q : VK} {elt tg iter : Expr} {ifs : List Expr} {scope : Scope} {own : List (Str × Nat)} {pos pos' : Pos} {wi : TI} {g : TG} {tt : TT} {te : TE} {use : Option (Value → Sem Unit)} {Qf : Value → Shared → Prop}
    (hc : L2H.HotC X) (hN : X.N.Nodup) (I : Inv X pins σ H s) (hi : PIW X tg iter wi) (ok : BlkOk X.N X.env.scope scope own)
    (hg : ∀ (p : Addr × Obj), L2H.Hot1 X.A p → ∀ (s : Shared) (H : Hp) (C : Addr) (cl : List (Str × Addr)) (fp : List Addr), PGW (X.blk s H scope (compEnvC scope cl C X.env) fp) p tg g) (ht : ∀ (s : Shared) (H : Hp) (C : Addr) (cl : List (Str × Addr)) (fp : List Addr), PTs (X.blk s H scope (compEnvC scope cl C X.env) fp) ifs tt)
    (he : ∀ (s : Shared) (H : Hp) (C : Addr) (cl : List (Str × Addr)) (fp : List Addr), PE (X.blk s H scope (compEnvC scope cl C X.env) fp) elt te) (hs : ∀ x, foldedSetIterable iter X.env x = pure x)
    (h : tLc wi g tt te (own.map (·.2)) σ H Q)
    (hRR : ∀ D C s' m H', Inv X pins σ H' s' → Q (.ref D) H' → D ≠ sysModules → s'.heap.Ns C m → FpOk X pins H' C → compPost (model X.prog X.w) X.A X.xe use Qf (.ref D) C (.ok .next) s') :
    wpAny (model X.prog X.w) X.A (comprehension (.ListComp elt [⟨tg, iter, ifs, 0⟩] scope pos) scope X.env pos' (newList []) false (eval iter X.env) use) Qf X.xe s := by
  have hfree : ∀ y ∈ scope.names, y.2 = .free → ∃ c, X.env.cells.lookup y.1 = some c := fun y hy e => by
    rcases ok.free y hy e with k | k
    · exact I.ok.has _ (.inl k)
    · exact I.ok.has _ (.inr k)
  refine wpAny_comprehension_free (use := use) rfl hs (closure_ok hfree) ok.kind (fun y hy e => by rw [ok.uniq y hy, e])
    (thn (hi.run pins s σ H _ I h) fun xv s1 hx => thn hx fun itv s2 h2 => ?_)
  obtain ⟨it, fp, tn, J, H2, e, I2, T, st2, f2, q⟩ := h2
  subst e
  refine wpAny_newObj_type (newEnv_comp ?_) (by show 0 ≤ sizeLine; decide)
  generalize hD : s2.heap.objs.size = D
  have hDn : H2 D = none := I2.hok.fresh (Nat.le_of_eq hD)
  obtain ⟨W, ⟨m0, w0⟩, turn⟩ := q D hDn
  -- the new list
  generalize hs3 : ({ s2 with heap := s2.heap.push { cls := .type "list", data := .seq ([] : List Value).toArray } } : Shared) = s3
  have I3 : Inv X pins σ (upd H2 D (.lst [])) s3 := by
    rw [← hs3]
    refine I2.laid (t' := s2.toks) (fun b o e => Heap.get?_push_of_some _ e) (Nat.le_of_eq hD) ⟨Nat.zero_le _, [], 0, .nil, ?_⟩
    rw [← hD]
    exact Heap.get?_push_size _ rfl
  have h3 : s3.heap = s2.heap.push { cls := .type "list", data := .seq ([] : List Value).toArray } := by rw [← hs3]
  have sz : ∀ b ∈ fp, b < s2.heap.objs.size := fun b hb => by
    obtain ⟨o, e, _⟩ := T.obj _ _ st2 b hb
    exact Heap.lt_size e
  have f3 : ∀ b ∈ fp, FpOk X pins (upd H2 D (.lst [])) b ∧ b < s3.heap.objs.size := fun b hb => by
    have hlt := sz b hb
    refine ⟨⟨?_, (f2 b hb).2⟩, by rw [h3, Heap.size_push]; exact Nat.lt_succ_of_lt hlt⟩
    rw [upd_ne (by rw [← hD]; exact Nat.ne_of_lt hlt)]
    exact (f2 b hb).1
  have st3 : tn 0 s3.heap := T.keep _ _ _ st2 fun b _ o e => by rw [h3]; exact Heap.get?_push_of_some _ e
  have I4 := block_start I3 ok hN f3
  obtain ⟨p, hot1, hp⟩ := hc
  have pg := hg p hot1 s3 (upd H2 D (.lst [])) s3.heap.objs.size (cellsFrom (s3.heap.objs.size + 1) scope.names (cloFrom X.env.cells scope.names [])) fp
  have pt := ht s3 (upd H2 D (.lst [])) s3.heap.objs.size (cellsFrom (s3.heap.objs.size + 1) scope.names (cloFrom X.env.cells scope.names [])) fp
  have pe := he s3 (upd H2 D (.lst [])) s3.heap.objs.size (cellsFrom (s3.heap.objs.size + 1) scope.names (cloFrom X.env.cells scope.names [])) fp
  show codeAny _ _ (.compStart (.ListComp elt [⟨tg, iter, ifs, 0⟩] scope pos) 0 (.ref it) (.ref D) (compEnvC scope (cellsFrom (s3.heap.objs.size + 1) scope.names (cloFrom X.env.cells scope.names [])) s3.heap.objs.size X.env)) (compPost (model X.prog X.w) X.A X.xe use Qf (.ref D) s3.heap.objs.size) { s3 with heap := pushCells (s3.heap.push { cls := .type "dict", data := .dict #[] }) scope.names }
  have nfp : ∀ b ∈ fp, (upd H2 D (.lst [])) b = none := fun b hb => (f3 b hb).1.1
  generalize hce : compEnvC scope (cellsFrom (s3.heap.objs.size + 1) scope.names (cloFrom X.env.cells scope.names [])) s3.heap.objs.size X.env = ce at I4 pg pt pe ⊢
  have cL : ce.locals = s3.heap.objs.size := by subst hce; rfl
  generalize hH3 : upd H2 D (.lst []) = H3 at I3 I4 pg pt pe w0 nfp f3
  generalize hs4 : ({ s3 with heap := pushCells (s3.heap.push { cls := .type "dict", data := .dict #[] }) scope.names } : Shared) = s4 at I4 ⊢
  have I4 : Inv (X.blk s3 H3 scope ce fp) [p] (wipe σ (own.map (·.2))) H3 s4 := I4.pins_of fun q hq => by
    have eq : q = p := List.mem_singleton.mp hq
    subst eq
    obtain ⟨g, n, nl, nf, nc⟩ := I3.pin q (List.mem_append_left _ hp)
    refine ⟨by rw [← hs4]; exact pushCells_keeps _ _ _ _ (Heap.get?_push_of_some _ g), n, fun z => ?_, fun z => ?_, nc⟩
    · have lt := Heap.lt_size g
      rw [z] at lt
      exact absurd (show ce.locals < s3.heap.objs.size from lt) (by rw [cL]; exact Nat.lt_irrefl _)
    · rcases List.mem_cons.mp (I3.stkSub _ z) with z | z
      · exact nl z
      · exact nf z
  have hot : ∀ {σ' : L2.St} {H' : Hp} {s' : Shared}, Inv (X.blk s3 H3 scope ce fp) [p] σ' H' s' → HotAt X.A p.1 s'.heap := fun {σ' H' s'} I' => by
    obtain ⟨hh, vs, d, c⟩ := hot1
    exact ⟨hh, p.2, vs, (I'.pin p (by simp)).1, d, c⟩
  have st4 : tn 0 s4.heap := T.keep _ _ _ st3 fun b _ o e => by rw [← hs4]; exact pushCells_keeps _ _ _ _ (Heap.get?_push_of_some _ e)
  have stat : ∀ {σ' : L2.St} {H' : Hp} {s' : Shared}, Inv (X.blk s3 H3 scope ce fp) [p] σ' H' s' → (∀ b ∈ fp, H' b = none) → ∀ b ∈ fp, FpOk (X.blk s3 H3 scope ce fp) [p] H' b := fun {σ' H' s'} I' hn b hb =>
    ⟨hn b hb, (I'.ok.exf b hb).1, I'.ok.exfs b hb, .inl hb, fun x c e => (I'.ok.exf b hb).2 x c e, fun q hq => by
      have e : q = p := List.mem_singleton.mp hq
      rw [e]
      exact (f3 b hb).1.2.2.2.2.2 p (List.mem_append_left _ hp)⟩
  have loop : codeAny (model X.prog X.w) X.A (.compLoop (.ListComp elt [⟨tg, iter, ifs, 0⟩] scope pos) 0 (.ref it) (.ref D) ce) (compPost (model X.prog X.w) X.A X.xe use Qf (.ref D) s3.heap.objs.size) s4 := by
    refine compLoop_any (fun n s' => ∃ i H', Inv (X.blk s3 H3 scope ce fp) [p] (wipe σ (own.map (·.2))) H' s' ∧ tn i s'.heap ∧ (∀ b ∈ fp, H' b = none) ∧ W i n H') ?_ m0 ⟨0, H3, I4, st4, nfp, w0⟩
    rintro n s5 ⟨i, H5, I5, st5, n5, w5⟩
    rcases turn i n H5 w5 with ⟨stop, qq⟩ | ⟨go, Nx, hNx, step⟩
    · have td := T.done (X.blk s3 H3 scope ce fp) rfl rfl rfl p.1 i [p] s5 _ H5 (fun _ _ => False) I5 (hot I5) (fun b hb => (f3 b hb).1.2.2.2.2.2 p (List.mem_append_left _ hp)) (stat I5 n5) st5 stop
      refine thnF td fun r s6 ⟨hr, I6⟩ => ?_
      subst hr
      -- back in the def's context
      have I7 : Inv X pins σ H5 s6 := I3.call' (ch := fp) I6.os I6.base I6.hok I6.bare fun b hb => ⟨(f3 b hb).1.2.2.2.1, (f3 b hb).1.2.1, (f3 b hb).1.2.2.2.2.1, (f3 b hb).1.2.2.2.2.2⟩
      have nC : H5 s3.heap.objs.size = none := by
        have z : H5 ce.locals = none := I6.free
        rw [cL] at z
        exact z
      obtain ⟨m, hn, _⟩ := I6.loc
      have hn : s6.heap.Ns ce.locals m := hn
      rw [cL] at hn
      exact hRR D s3.heap.objs.size s6 m H5 I7 qq (by rw [← hD]; exact Nat.ne_of_gt I2.big) hn (I3.fpOk (Nat.le_refl _) nC)
    · have ti := T.item (X.blk s3 H3 scope ce fp) rfl rfl rfl i [p] s5 _ H5 (fun _ _ => False) I5 (stat I5 n5) st5 go
      refine thnF ti fun r s6 ⟨u, hr, h6⟩ => ?_
      subst hr
      refine thnF h6 fun _ s7 ⟨x, H7, I7, r7, y7, st7, n7⟩ => ?_
      have I7' := I7.pinned (stat I7 n7) (T.obj _ _ st7)
      refine thnF (pg.run _ s7 _ H7 x u _ (by simp) I7' r7 (step x H7 y7)) fun _ s8 ⟨σ8, H8, I8, hw8, q8⟩ => ?_
      refine thnF (pt.run _ s8 σ8 H8 _ I8 q8) fun b s9 ⟨H9, I9, q9⟩ => ?_
      -- the turn's end
      have fin : ∀ {s' : Shared} {H' : Hp}, Inv (X.blk s3 H3 scope ce fp) ([p] ++ pinsAt fp s7.heap) σ8 H' s' → Nx H' → ∃ m, m < n ∧ ∃ i H', Inv (X.blk s3 H3 scope ce fp) [p] (wipe σ (own.map (·.2))) H' s' ∧ tn i s'.heap ∧ (∀ b ∈ fp, H' b = none) ∧ W i m H' := fun {s' H'} I' nx => by
        obtain ⟨m', hm, w'⟩ := hNx H' nx
        have pin' : ∀ b ∈ fp, ∀ o, s7.heap.get? b = some o → s'.heap.get? b = some o ∧ H' b = none := fun b hb o e =>
          let z := I'.pin (b, o) (List.mem_append_right _ (List.mem_append_right _ (mem_pinsAt hb e)))
          ⟨z.1, z.2.1⟩
        have hl : (wipe σ (own.map (·.2))).length = σ8.length := by rw [← hw8, wipe_length]
        refine ⟨m', hm, i + 1, H', (I'.unpinned (pins := [p])).weak hl (fun j v e => ?_), T.keep _ _ _ st7 fun b hb o e => (pin' b hb o e).1, fun b hb => ?_, w'⟩
        · rw [← hw8] at e
          exact (wipe_some e).1
        · obtain ⟨o, e, _⟩ := T.obj _ _ st7 b hb
          exact (pin' b hb o e).2
      cases b with
      | false =>
        simp only [Bool.false_eq_true, if_false] at q9 ⊢
        exact fin I9 q9
      | true =>
        simp only [if_true] at q9 ⊢
        refine thnF (pe.run _ s9 σ8 H9 _ I9 q9) fun z s10 ⟨yv, H10, I10, r10, acc, hD10, hz10, nx⟩ => ?_
        exact app_ok (X := X.blk s3 H3 scope ce fp) I10 hD10 hz10 r10 fun s11 I11 => fin I11 nx
  exact codeAny_compStart_list loop (T.self X.A 0 _ _ _ st4 loop)
theorem pe_lcW2 {elt tg iter : Expr} {ifs : List Expr} {scope : Scope} {own : List (Str × Nat)} {pos : Pos} {wi : TI} {g : TG} {tt : TT} {te : TE} (hc : L2H.HotC X) (hN : X.N.Nodup) (hi : PIW X tg iter wi) (ok : BlkOk X.N X.env.scope scope own)
    (hg : ∀ (p : Addr × Obj), L2H.Hot1 X.A p → ∀ (s : Shared) (H : Hp) (C : Addr) (cl : List (Str × Addr)) (fp : List Addr), PGW (X.blk s H scope (compEnvC scope cl C X.env) fp) p tg g) (ht : ∀ (s : Shared) (H : Hp) (C : Addr) (cl : List (Str × Addr)) (fp : List Addr), PTs (X.blk s H scope (compEnvC scope cl C X.env) fp) ifs tt)
    (he : ∀ (s : Shared) (H : Hp) (C : Addr) (cl : List (Str × Addr)) (fp : List Addr), PE (X.blk s H scope (compEnvC scope cl C X.env) fp) elt te) (hs : ∀ x, foldedSetIterable iter X.env x = pure x := by intro _; rfl) :
    PE X (.ListComp elt [⟨tg, iter, ifs, 0⟩] scope pos) (tLcB wi g tt te (own.map (·.2))) := by
  refine ⟨fun pins s σ H Q I h => ?_⟩
  rw [eval_ListComp]
  refine lc_coreW2 hc hN I hi ok hg ht he hs h fun D C s' m H' I' q nD hn f => ⟨m, hn, fun h'' sb => ?_⟩
  obtain ⟨f0, f1, f2, f3, f4, f5⟩ := f
  exact ⟨.ref D, H', I'.turned (t' := s'.toks) (fun b o hb e => (sb.2 b hb).trans e) f0 f1 f3 f4 f5, rfl, q (fun e => nD (V.ref.inj e))⟩
end
end Hw

set_option Elab.async false
set_option linter.all false
set_option maxRecDepth 100000
set_option maxHeartbeats 4000000
namespace Hw
open PySem PySem.Spec L2 LamX PyProof PyProof.Rows
/-! what stays while tables are written -/
def ExtA (a : Addr) (H H' : Hp) : Prop := ∀ b o, b ≠ a → (∀ ps, o ≠ HO.tbl ps) → H b = some o → H' b = some o
theorem ExtA.refl (a : Addr) (H : Hp) : ExtA a H H := fun _ _ _ _ e => e
theorem ExtA.ofX {a : Addr} {H H' : Hp} (s : SameX a H H') : ExtA a H H' := fun b o n _ e => s b o n e
theorem ExtA.ofN {a : Addr} {H H' : Hp} (s : ExtN H H') : ExtA a H H' := fun b o _ n e => s b o e n
theorem ExtA.ofS {a : Addr} {H H' : Hp} (s : Same H H') : ExtA a H H' := fun b o _ _ e => s b o e
theorem ExtA.trans {a : Addr} {H H1 H2 : Hp} (x : ExtA a H H1) (y : ExtA a H1 H2) : ExtA a H H2 := fun b o n m e => y b o n m (x b o n m e)
theorem ExtA.lst {a b : Addr} {H H' : Hp} {xs : List V} (s : ExtA a H H') (n : b ≠ a) (e : H b = some (.lst xs)) : H' b = some (.lst xs) := s _ _ n (fun _ z => nomatch z) e
theorem ExtA.tupl {a b : Addr} {H H' : Hp} {xs : List V} (s : ExtA a H H') (n : b ≠ a) (e : H b = some (.tup xs)) : H' b = some (.tup xs) := s _ _ n (fun _ z => nomatch z) e
theorem ExtN.ofS {H H' : Hp} (s : Same H H') : ExtN H H' := fun b o e _ => s b o e
theorem tabs_same {T : List (Addr × Str)} {H H' : Hp} (t : Tabs T H) (s : Same H H') : Tabs T H' := fun p hp => (t p hp).ext s
theorem Pot.ext {H H' : Hp} {a : Addr} {N : Nat} (p : Pot H a N) (s : ExtN H H') : Pot H' a N := by
  obtain ⟨x, y, z, e, h⟩ := p.ex
  exact ⟨x, y, z, s _ _ e (fun _ q => nomatch q), h⟩
mutual
theorem Dx.ext {a : Addr} {H H' : Hp} (s : ExtA a H H') : ∀ (v : V) (d : PyData), Dx a H v d → Dx a H' v d
  | _, .list ds, h => by
    cases h with
    | flat e => exact .flat e
    | lst h1 h2 h3 => exact .lst (s _ _ h2 (fun _ z => nomatch z) h1) h2 (DxAll.ext s _ ds h3)
  | _, .tuple ds, h => by
    cases h with
    | flat e => exact .flat e
    | tup h1 h2 h3 => exact .tup (s _ _ h2 (fun _ z => nomatch z) h1) h2 (DxAll.ext s _ ds h3)
  | _, .dict ds, h => by
    cases h with
    | flat e => exact .flat e
    | dct h1 h2 h3 h4 => exact .dct (s _ _ h2 (fun _ z => nomatch z) h1) h2 h3 h4
  | _, .none, h => by cases h with | flat e => exact .flat e
  | _, .bool _, h => by cases h with | flat e => exact .flat e
  | _, .int _, h => by cases h with | flat e => exact .flat e
  | _, .str _, h => by cases h with | flat e => exact .flat e
theorem DxAll.ext {a : Addr} {H H' : Hp} (s : ExtA a H H') : ∀ (vs : List V) (ds : List PyData), DxAll a H vs ds → DxAll a H' vs ds
  | _, [], h => by cases h; exact .nil
  | _, d :: ds, h => by
    cases h with
    | cons h1 h2 => exact .cons (Dx.ext s _ d h1) (DxAll.ext s _ ds h2)
end
/-- a def whose code object is known -/
structure FunC (K : PySem.W.Frag) (x qual : Str) (st : Stmt) (f : Addr) (fd : FuncData) (c : Addr) : Prop where
  ex : ∃ (oc : Value) (od : Option Addr) (kV doc pm : Value) (an : Option Addr) (ct : Value) (osl : Array (Option Value)),
    fd = PySem.W.fnOf x qual (defArgs st) (defBody st) (defScope st) .none kV doc pm an (.ref c) ct ∧ K.lookup f = some ⟨oc, od, .func fd, osl⟩ ∧ PySem.W.codeIn K (.ref c) qual = true
theorem funGC {P : Program} {w : World} {K : PySem.W.Frag} {mg : Str → Option Value} {base : Heap} {x qual : Str} {st : Stmt} {f c : Addr} {fd : FuncData} {N ps : List Str} {k : Nat} {sp : Sp} (F : FunC K x qual st f fd c) (S : FnScope N ps (defScope st)) (len : ∀ vs H Q E, sp vs H Q E → vs.length = ps.length)
    (hbody : ∀ (A : Around) (outer : List Env) (s : Shared) (H : Hp) (vs : List V) (Q : VK) (E : XK), RoomG k (A.deeper (envOfC qual (defScope st) s.heap.objs.size f (.ref c))) → sp vs H Q E →
      ∃ t, PSs (cxOf CX0 P w K mg base N qual (defScope st) f (.ref c) A outer s H E).nox (defBody st) t ∧ t { nx := fun _ H' => Q .non H', rt := Q } (start N vs) H) : FnG P w K mg base CX0 (k + 1) f fd ps sp := by
  obtain ⟨oc, od, kV, doc, pm, an, ct, osl, rfl, lk, hcd⟩ := F.ex
  exact fnG_of lk hcd S len fun A outer s H vs Q E hr hsp => by
    obtain ⟨t, h, q⟩ := hbody A outer s H vs Q E hr hsp
    exact ⟨t, h.nox, q⟩
theorem mk_pow : MkD (tOp (rI CPowW fun i j => .int (i ^ j.toNat)) (tC (.int 10)) (tC (.int 30))) (.int (10 ^ 30)) := fun a σ H Q _ q => ⟨10, 30, rfl, rfl, ⟨by decide, by decide⟩, q _ H (Same.refl H) (.flat rfl)⟩
theorem rs_end {t : TT} {A : TS} {D : Ends} {σ : L2.St} {H : Hp} (h : t σ H fun b H1 => if b = true then A D σ H1 else tNext D σ H1) : tIfS t A tNext D σ H := h
theorem r_c {v : V} {σ : L2.St} {H : Hp} {Q : VK} (h : Q v H) : tC v σ H Q := h
theorem tabs_sx {T : List (Addr × Str)} {H H' : Hp} {a : Addr} {N : Nat} (t : Tabs T H) (p : Pot H a N) (s : SameX a H H') : Tabs T H' := fun x hx => by
  obtain ⟨ps, h1, h2, h3⟩ := t x hx
  obtain ⟨_, _, _, ep, _⟩ := p.ex
  refine ⟨ps, s _ _ (fun z => by rw [z, ep] at h1; cases h1) h1, h2, fun pos cv e => ?_⟩
  obtain ⟨c, e1, e2⟩ := h3 pos cv e
  refine ⟨c, e1, s _ _ (fun z => ?_) e2⟩
  rw [z, ep] at e2
  have e3 : HO.lst _ = HO.ext _ := Option.some.inj e2
  cases e3
theorem ExtN.seq {K : PySem.W.Frag} {H H' : Hp} {a : Addr} {xs : List V} (s : ExtN H H') (h : SqL K H a xs) : SqL K H' a xs := by
  rcases h with (h | ⟨o, h⟩) | h
  · exact .inl (.inl (s _ _ h (fun _ z => nomatch z)))
  · exact .inl (.inr ⟨o, s _ _ h (fun _ z => nomatch z)⟩)
  · exact .inr h
theorem ExtN.lst {b : Addr} {H H' : Hp} {xs : List V} (s : ExtN H H') (e : H b = some (.lst xs)) : H' b = some (.lst xs) := s _ _ e (fun _ z => nomatch z)
theorem tabs_put {T : List (Addr × Str)} {H : Hp} {D : Addr} {xs ys : List V} (t : Tabs T H) (e : H D = some (.lst xs)) : Tabs T (upd H D (.lst ys)) := fun x hx => by
  obtain ⟨ps, h1, h2, h3⟩ := t x hx
  refine ⟨ps, by rw [upd_ne (fun z => by rw [z, e] at h1; cases h1)]; exact h1, h2, fun pos cv ec => ?_⟩
  obtain ⟨c, e1, e2⟩ := h3 pos cv ec
  refine ⟨c, e1, ?_⟩
  rw [upd_ne (fun z => ?_)]
  · exact e2
  · rw [z, e] at e2
    have e3 : HO.lst _ = HO.ext _ := Option.some.inj e2
    cases e3
end Hw

set_option Elab.async false
set_option linter.all false
set_option maxRecDepth 100000
set_option maxHeartbeats 4000000
namespace HI
open PySem PySem.Spec L2 PyProof PyProof.Rows Hw
section
variable {X : Cx}
/-- try: return (None, a()) / except x as n: suite -/
def tHeardR (W : WX) (i : Nat) (f : Addr) (G : Hp → Prop) (tl : XK → Hp → VK → Prop) : TS := tRet (tTup (tCons (tC .non) (tCons (fun σ H Q => ∃ E Q1, (∀ cls d H', E cls d H' → W cls d σ H') ∧ (∀ v H', Q1 v H' → Q v H') ∧ σ[i]? = some (some (.ref f)) ∧ G H ∧ tl E H Q1) tNil)))
theorem ps_heardR {k i j : Nat} {a x n : Str} {c : Value} {f : Addr} {G : Hp → Prop} {tl : XK → Hp → VK → Prop} {Wout : WX} {suite : List Stmt} {b₀ : Stmt} {jn kk : Nat} {p1 p2 p3 p4 p5 np pos pos' : Pos} {ts : Addr → Value → Option Addr → TS} (hex : X.ex = []) (hs : X.stack = X.env :: X.outer) (hf : X.env.frame = some X.env.locals) (hN : X.N.Nodup)
    (hi : X.N[i]? = some n) (hln : X.env.kindOf n = some .local) (hc : Names X x c) (tk : L2N.Takes X Wout) (ac : Act (L2N.CX X.prog X.w) X.prog X.w X.K X.mg X.base k f X.fs X.H_0 X.s_0.heap G tl) (hr : Room (k + 1) X.A) (hNa : X.N[j]? = some a) (hva : Vis X.env.scope a)
    (hsu : ∀ (a : Addr) (oe : Obj) (cls : Value) (d : Option Addr) (pn : List (Addr × Obj)), L2N.Zn cls d oe → (∃ vs, oe.data = .fields vs) → PSs (X.suite a ((a, oe) :: pn)) (b₀ :: suite) (ts a cls d))
    (hd : (a == ("__debug__" : Str)) = false := by decide) (hcd : (a == ("__classdict__" : Str)) = false := by decide) :
    PS X (.Try [.Return (some (.Tuple [.Constant .none jn p4, .Call (.Name a p1) [] [] p2] kk p5)) p3] [.ExceptHandler (some (.Name x np)) (some n) (b₀ :: suite) pos'] [] [] pos)
      (fun D σ H => tHeardR (fun cls d σ H' => wAs X.K c i ts Wout D cls d σ H') j f G tl D σ H) :=
  L2N.ps_try_as (tb := fun W D σ H => tHeardR W j f G tl D σ H) hs hf hN hi hln hc tk
    (fun W pn xe tk' _ => pss_one (ps_ret (pe_tup (pa_cons pe_non (pa_cons (pe_actS (X := X.tr pn xe) (i := j) hex ac (fun _ _ h _ _ _ e s' I z => tk' e s' (L2N.XE.of_call I h z)) hr hNa hva hd hcd) pa_nil))))) hsu
end
abbrev sHeard : Stmt := topS 34
abbrev nCa : List Str := ["call", "error", "words", "word", "is_so"]
def wordT : Nat → Str
  | 0 => "limits"
  | _ => "tree"
structure Cls2 (K : PySem.W.Frag) (CS : Addr) (c : Nat → Addr) : Prop where
  ct : ∀ i, i < 2 → ∀ dd, Caught K CS (.ref (c i)) (some dd) (c i) dd
  kit : ∀ i j, i < 2 → j < 2 → PySem.W.kitOne K (.ref (c i)) (.ref (c j)) = some (decide (i = j))
def spHeardT (P : Program) (w : World) (K : PySem.W.Frag) (mg : Str → Option Value) (base : Heap) (k : Nat) (CS : Addr) (c : Nat → Addr) : SpL := fun fs h vs H Q _ =>
  ∃ (a : Addr) (G : Hp → Prop) (tl : XK → Hp → VK → Prop), vs = [.ref a] ∧ Act (L2N.CX P w) P w K mg base k a fs H h G tl ∧ G H ∧
    tl (fun cls d H1 => ∃ (i : Nat) (dd : Addr) (v : V), i < 2 ∧ cls = .ref (c i) ∧ d = some dd ∧ H1 dd = some (.xd [("value", v)]) ∧
        ∀ H' tp l, Same H1 H' → H' tp = some (.tup [.ref l, v]) → H' l = some (.lst [.str (wordT i)]) → l ≠ sysModules → Q (.ref tp) H') H
      (fun v H1 => ∀ H' tp, Same H1 H' → H' tp = some (.tup [.non, v]) → Q (.ref tp) H')
theorem scHeard : FnScope nCa ["call"] (defScope sHeard) := ⟨rfl, rfl, rfl, by decide +kernel, rfl, by decide +kernel, by decide +kernel⟩
def HeardP (c : Nat → Addr) (x : Addr) (cls : Value) (d : Option Addr) (D : Ends) (σ : L2.St) (H1 : Hp) : Prop :=
  ∃ (o0 o2 o3 o4 : Option V) (i : Nat) (dd : Addr) (v : V), i < 2 ∧ cls = .ref (c i) ∧ d = some dd ∧ σ = [o0, some (.ref x), o2, o3, o4] ∧ H1 dd = some (.xd [("value", v)]) ∧
    ∀ H' tp l, Same H1 H' → H' tp = some (.tup [.ref l, v]) → H' l = some (.lst [.str (wordT i)]) → l ≠ sysModules → D.rt (.ref tp) H'
theorem ok_heardT {P : Program} {w : World} {K : PySem.W.Frag} {mg : Str → Option Value} {base : Heap} {f : Addr} {fd : FuncData} {k : Nat} {CS : Addr} {c : Nat → Addr} (F : L2.Fun K "_law_heard" "_law_heard" sHeard f fd) (bi : mg "isinstance" = none) (C2 : Cls2 K CS c)
    (me : mg "HealError" = some (.ref CS)) (m0 : mg "BadLimits" = some (.ref (c 0))) (m1 : mg "NotTree" = some (.ref (c 1))) :
    FnGL P w K mg base CX0 (k + 2) f fd ["call"] (spHeardT P w K mg base k CS c) := by
  refine funGL F scHeard (fun fs h vs H Q E hh => ?_) (fun cdv A outer s H vs Q E hr hh => ?_)
  · obtain ⟨_, _, _, rfl, _⟩ := hh
    rfl
  · obtain ⟨a, G, tl, rfl, ac, hg, ht⟩ := hh
    have va : (defScope sHeard).names.lookup ("call" : Str) = some .local := by decide +kernel
    have vc : (defScope sHeard).names.lookup ("error" : Str) = some .local := by decide +kernel
    have vw : (defScope sHeard).names.lookup ("words" : Str) = some .local := by decide +kernel
    have ge : (defScope sHeard).names.lookup ("HealError" : Str) = some .globalImplicit := by decide +kernel
    have gi : (defScope sHeard).names.lookup ("isinstance" : Str) = some .globalImplicit := by decide +kernel
    have g0 : (defScope sHeard).names.lookup ("BadLimits" : Str) = some .globalImplicit := by decide +kernel
    have g1 : (defScope sHeard).names.lookup ("NotTree" : Str) = some .globalImplicit := by decide +kernel
    refine ⟨_, pss_one (ps_heardR (X := (cxOf CX0 P w K mg base nCa "_law_heard" (defScope sHeard) f cdv A outer s H E).nox) (i := 1) (j := 0) (c := .ref CS) (Wout := fun _ _ _ _ => False) (ts := HeardP c)
        rfl rfl rfl scHeard.nd rfl vc ⟨ge, by decide, .inl me⟩ takes0N ac hr.r rfl (.inl va) (fun x oe cls d pn hz hf => ?_) (by decide) (by decide)), ?_⟩
    · refine ⟨fun pins s' σ H1 D I h => ?_⟩
      obtain ⟨o0, o2, o3, o4, i, dd, v, hi, rfl, rfl, rfl, hdd, q⟩ := h
      have ct := C2.ct i hi dd
      have is0 := fun (r1 r2 r3 r4 : Pos) => pe_isD (X := (cxOf CX0 P w K mg base nCa "_law_heard" (defScope sHeard) f cdv A outer s H E).nox) (a := x) (pn := pn) (i := 1) (p1 := r1) (p2 := r2) (p3 := r3) (p4 := r4) ct.isC hz.zc hf gi bi rfl (.inl vc) g0 m0 (by decide) (by decide) (by decide)
      have is1 := fun (r1 r2 r3 r4 : Pos) => pe_isD (X := (cxOf CX0 P w K mg base nCa "_law_heard" (defScope sHeard) f cdv A outer s H E).nox) (a := x) (pn := pn) (i := 1) (p1 := r1) (p2 := r2) (p3 := r3) (p4 := r4) ct.isC hz.zc hf gi bi rfl (.inl vc) g1 m1 (by decide) (by decide) (by decide)
      refine (pss_cons (ps_set (i := 2) scHeard.nd rfl (.inl vw) (pe_lst (pa_cons (pe_tup (pa_cons pe_str (pa_cons (is0 _ _ _ _) pa_nil))) (pa_cons (pe_tup (pa_cons pe_str (pa_cons (is1 _ _ _ _) pa_nil))) pa_nil))) rfl (.inr vw))
        (pss_one (ps_ret (pe_tup (pa_cons (pe_lcW2 (own := [("word", 3), ("is_so", 4)]) (g := gTup K 2 (gCons (gName 3) (gCons (gName 4) gNil))) (tt := tB (tVar 4)) (te := tVar 3) (hot_suite hz hf) scHeard.nd (pi_listW (pe_var (i := 2) rfl (.inl vw) (by decide) (by decide)))
            (blkOk_by (N := nCa) (sc := defScope sHeard) (by decide +kernel)) (fun p hp _ _ _ _ _ => pg_tupW hp (pgs_cons (pg_name (i := 3) scHeard.nd rfl (Or.inl rfl)) (pgs_cons (pg_name (i := 4) scHeard.nd rfl (Or.inl rfl)) pgs_nil)))
            (fun _ _ _ _ _ => pts_one (pt_val (pe_var (i := 4) rfl (.inl rfl) (by decide) (by decide)))) (fun _ _ _ _ _ => pe_var (i := 3) rfl (.inl rfl) (by decide) (by decide)))
          (pa_cons (pe_xf (X := (cxOf CX0 P w K mg base nCa "_law_heard" (defScope sHeard) f cdv A outer s H E).nox) (a := x) (pn := pn) ct.fld ct.val hz.zc hf (pe_var (i := 1) rfl (.inl vc) (by decide) (by decide)) rfl) pa_nil)))))).run pins s' _ H1 D I ?_
      refine rs_set ?_
      refine ⟨rfl, ⟨_, hdd⟩, _, C2.kit i 0 hi (by decide), by show 2 ≤ sizeLine; decide, fun t0 n0 => ?_⟩
      have s0 := same_upd (o := .tup [.str "limits", .bl (decide (i = 0))]) n0
      have e0 : (upd H1 t0 (.tup [.str "limits", .bl (decide (i = 0))])) t0 = some (.tup [.str "limits", .bl (decide (i = 0))]) := upd_same
      generalize (upd H1 t0 (.tup [.str "limits", .bl (decide (i = 0))])) = H2 at s0 e0 ⊢
      refine ⟨rfl, ⟨_, s0 _ _ hdd⟩, _, C2.kit i 1 hi (by decide), by show 2 ≤ sizeLine; decide, fun t1 n1 => ?_⟩
      have s1 := same_upd (o := .tup [.str "tree", .bl (decide (i = 1))]) n1
      have f1 : (upd H2 t1 (.tup [.str "tree", .bl (decide (i = 1))])) t1 = some (.tup [.str "tree", .bl (decide (i = 1))]) := upd_same
      have f0 := s1 _ _ e0
      have s1 := s0.trans s1
      generalize (upd H2 t1 (.tup [.str "tree", .bl (decide (i = 1))])) = H3 at s1 f0 f1 ⊢
      refine ⟨by show 2 ≤ sizeLine; decide, fun w0 nw0 => ?_⟩
      have s2 := same_upd (o := .lst [.ref t0, .ref t1]) nw0
      have ew : (upd H3 w0 (.lst [.ref t0, .ref t1])) w0 = some (.lst [.ref t0, .ref t1]) := upd_same
      have f0 := s2 _ _ f0
      have f1 := s2 _ _ f1
      have s6 := s1.trans s2
      generalize (upd H3 w0 (.lst [.ref t0, .ref t1])) = H8 at s6 f0 f1 ew ⊢
      clear s0 s1 n0 n1 nw0 s2
      refine r_ret ?_
      refine ⟨.ref w0, rfl, w0, rfl, ⟨_, sql_of ew⟩, fun L nL => ?_⟩
      have tup : ∀ j t, ([V.ref t0, .ref t1] : List V)[j]? = some t → ∃ q, t = .ref q ∧ j < 2 ∧ H8 q = some (.tup [.str (wordT j), .bl (decide (i = j))]) := fun j t hj => by
        match j, hj with
        | 0, hj => cases hj; exact ⟨_, rfl, by decide, f0⟩
        | 1, hj => cases hj; exact ⟨_, rfl, by decide, f1⟩
        | j + 2, hj => simp at hj
      refine lc_list (K := K) (xs := [.ref t0, .ref t1]) (fun n H' => Same H8 H' ∧ H' L = some (.lst (if i < n then [V.str (wordT i)] else []))) ⟨same_upd nL, by rw [if_neg (Nat.not_lt_zero _)]; exact upd_same⟩ (fun n H' _ h => sql_of (h.1 _ _ ew)) ?_ ?_
      · rintro j t H' hj ⟨sx, eL⟩
        obtain ⟨q', rfl, hj4, eq⟩ := tup j t hj
        refine ⟨q', _, rfl, sqt_of (sx _ _ eq), rfl, _, _, rfl, _, _, rfl, rfl, rfl, ?_⟩
        refine ⟨_, rfl, _, rfl, ?_⟩
        by_cases h : i = j
        · subst h
          rw [decide_eq_true rfl]
          show if true = true then _ else _
          rw [if_pos rfl]
          rw [if_neg (Nat.lt_irrefl _)] at eL
          refine ⟨_, rfl, _, eL, by show 0 < sizeLine; decide, fun b o e => by rw [upd_ne (ne_of_none e nL)]; exact sx _ _ e, ?_⟩
          rw [upd_same, if_pos (Nat.lt_succ_self _)]; rfl
        · rw [decide_eq_false h]
          show if false = true then _ else _
          rw [if_neg Bool.false_ne_true]
          refine ⟨sx, ?_⟩
          rw [eL]
          by_cases h2 : i < j
          · rw [if_pos h2, if_pos (by omega)]
          · rw [if_neg h2, if_neg (by omega)]
      · rintro H9 ⟨s9, eL⟩
        have eL : H9 L = some (.lst [.str (wordT i)]) := by
          rw [eL]
          show some (HO.lst (if i < 2 then _ else _)) = _
          rw [if_pos hi]
        intro nLs
        refine ⟨.ref x, rfl, rfl, rfl, dd, _, v, rfl, s9 _ _ (s6 _ _ hdd), rfl, ?_⟩
        refine ⟨by show 2 ≤ sizeLine; decide, fun tp ntp => ?_⟩
        have s10 := same_upd (o := .tup [.ref L, v]) ntp
        exact q _ tp L ((s6.trans s9).trans s10) upd_same (s10 _ _ eL) (fun e => nLs (congrArg V.ref e))
    · show tHeardR _ _ _ _ _ _ _ _
      refine ⟨_, _, fun cls d H1 h => ?_, fun v H1 h => ?_, rfl, hg, ht⟩
      · obtain ⟨i, dd, v, hi, rfl, rfl, hdd, q⟩ := h
        have ct := C2.ct i hi dd
        refine ⟨true, ct.heal, fun _ x _ => ⟨_, _, _, _, i, dd, v, hi, rfl, rfl, rfl, hdd, q⟩, fun z => Bool.noConfusion z⟩
      · refine ⟨by show 2 ≤ sizeLine; decide, fun tp np => ?_⟩
        exact h _ tp (same_upd np) upd_same
end HI

set_option Elab.async false
set_option linter.all false
set_option maxRecDepth 100000
set_option maxHeartbeats 4000000
namespace Hw
open PySem L2 PyProof.Rows
/-! data that are shown in few signs -/
structure Tame (w : Nat) (d : PyData) : Prop where
  lay : d.canLay0 = true
  sh : d.showable = true
  short : d.intsShort 13 = true
  dp : d.depth ≤ 10
  wt : d.weight ≤ w
theorem Tame.mono {w w' : Nat} {d : PyData} (t : Tame w d) (h : w ≤ w') : Tame w' d := ⟨t.lay, t.sh, t.short, t.dp, Nat.le_trans t.wt h⟩
theorem Tame.len {w : Nat} {d : PyData} (t : Tame w d) (h : w ≤ 2 ^ 20) : d.shown.length ≤ sizeLine := by
  have l : d.layable0 = true := by
    show (d.canLay0 && decide (d.depth ≤ 64) && decide (d.weight ≤ 2 ^ 20)) = true
    rw [t.lay, decide_eq_true (Nat.le_trans t.dp (by decide)), decide_eq_true (Nat.le_trans t.wt h)]; rfl
  have := PyProof.Rows.shown_le13 l t.short
  rw [sizeLine_eq]; omega
theorem tame_non : Tame 8 .none := ⟨by rw [PyData.canLay0], by rw [PyData.showable], by rw [PyData.intsShort], by rw [PyData.depth]; decide, by rw [PyData.weight]; decide⟩
theorem tame_int {n : Nat} (h : n ≤ 200) : Tame 8 (.int (n : Int)) := by
  have a : ((List.range 201).all fun n => decide ((PyData.int (n : Int)).shown.length ≤ 13) && decide ((PyData.int (n : Int)).weight ≤ 8)) = true := by decide +kernel
  have b := List.all_eq_true.mp a n (List.mem_range.mpr (by omega))
  simp only [Bool.and_eq_true, decide_eq_true_eq] at b
  have c : ((n : Int)).natAbs.log2 < 1920 := by
    have : ((n : Int)).natAbs = n := Int.natAbs_natCast n
    rw [this]
    by_cases h0 : n = 0
    · rw [h0]; decide
    · exact (Nat.log2_lt h0).mpr (Nat.lt_of_le_of_lt h (by exact Nat.lt_of_lt_of_le (by decide : 200 < 2 ^ 8) (Nat.pow_le_pow_right (by decide) (by decide))))
  exact ⟨by rw [PyData.canLay0], by rw [PyData.showable]; exact decide_eq_true c, by rw [PyData.intsShort]; exact decide_eq_true b.1, by rw [PyData.depth]; decide, b.2⟩
theorem tame_all {w : Nat} : ∀ {ds : List PyData}, (∀ d ∈ ds, Tame w d ∧ d.depth ≤ 5) → PyData.canLayAll0 ds = true ∧ PyData.showableAll ds = true ∧ PyData.intsShortAll 13 ds = true ∧ PyData.depthAll ds ≤ 5 ∧ PyData.weightAll ds ≤ ds.length * (w + 1)
  | [], _ => ⟨by rw [PyData.canLayAll0], by rw [PyData.showableAll], by rw [PyData.intsShortAll], by rw [PyData.depthAll]; decide, by rw [PyData.weightAll]; exact Nat.zero_le _⟩
  | d :: ds, h => by
    obtain ⟨t, hd⟩ := h d List.mem_cons_self
    obtain ⟨a, b, c, e, f⟩ := tame_all fun x hx => h x (List.mem_cons_of_mem _ hx)
    refine ⟨by rw [PyData.canLayAll0, t.lay, a]; rfl, by rw [PyData.showableAll, t.sh, b]; rfl, by rw [PyData.intsShortAll, t.short, c]; rfl, by rw [PyData.depthAll]; omega, ?_⟩
    rw [PyData.weightAll, List.length_cons, Nat.add_mul, Nat.one_mul]
    have := t.wt
    omega
theorem tame_tup {w : Nat} {ds : List PyData} (h : ∀ d ∈ ds, Tame w d ∧ d.depth ≤ 5) : Tame (ds.length * (w + 1)) (.tuple ds) ∧ (PyData.tuple ds).depth ≤ PyData.depthAll ds + 1 := by
  obtain ⟨a, b, c, e, f⟩ := tame_all h
  exact ⟨⟨by rw [PyData.canLay0]; exact a, by rw [PyData.showable]; exact b, by rw [PyData.intsShort]; exact c, by rw [PyData.depth]; omega, by rw [PyData.weight]; exact f⟩, by rw [PyData.depth]; exact Nat.le_refl _⟩
theorem tame_lst {w : Nat} {ds : List PyData} (h : ∀ d ∈ ds, Tame w d ∧ d.depth ≤ 5) : Tame (ds.length * (w + 1)) (.list ds) := by
  obtain ⟨a, b, c, e, f⟩ := tame_all h
  exact ⟨by rw [PyData.canLay0]; exact a, by rw [PyData.showable]; exact b, by rw [PyData.intsShort]; exact c, by rw [PyData.depth]; omega, by rw [PyData.weight]; exact f⟩
/-- the text that is told of data -/
theorem repr_tame {X : Cx} {K : PySem.W.Frag} {w : Nat} {x : V} {d : PyData} {H : Hp} {Q : VK} (h : Dp K H x d) (t : Tame w d) (hw : w ≤ 2 ^ 20) (q : Q (.str d.shown) H) : rRepr K [x] H Q := ⟨x, d, rfl, .inl h, t.sh, Nat.le_trans t.dp (by decide), t.len hw, q⟩
theorem tame_bool (b : Bool) : Tame 8 (.bool b) := ⟨by rw [PyData.canLay0], by rw [PyData.showable], by rw [PyData.intsShort], by rw [PyData.depth]; decide, by rw [PyData.weight]; decide⟩
theorem tame_istr {n : Nat} (h : n ≤ 200) : Tame 8 (.str (toString (n : Int))) := by
  have a : ((List.range 201).all fun n => PyData.strOk (toString (n : Int)) && decide ((PyData.str (toString (n : Int))).weight ≤ 8)) = true := by decide +kernel
  have b := List.all_eq_true.mp a n (List.mem_range.mpr (by omega))
  simp only [Bool.and_eq_true, decide_eq_true_eq] at b
  exact ⟨by rw [PyData.canLay0]; exact b.1, by rw [PyData.showable], by rw [PyData.intsShort], by rw [PyData.depth]; decide, b.2⟩
theorem tame_text {z : Str} (h : (PyData.strOk z && decide (z.cps.size ≤ 8)) = true) : Tame 8 (.str z) := by
  rw [Bool.and_eq_true, decide_eq_true_eq] at h
  exact ⟨by rw [PyData.canLay0]; exact h.1, by rw [PyData.showable], by rw [PyData.intsShort], by rw [PyData.depth]; decide, by rw [PyData.weight]; exact h.2⟩
/-- what is of few items, each of few small ones -/
inductive Small : PyData → Prop
  | non : Small .none
  | bl (b : Bool) : Small (.bool b)
  | int {n : Nat} : n ≤ 200 → Small (.int (n : Int))
  | str {n : Nat} : n ≤ 200 → Small (.str (toString (n : Int)))
theorem Small.tame {d : PyData} (s : Small d) : Tame 8 d ∧ d.depth = 0 := by
  cases s with
  | non => exact ⟨tame_non, by rw [PyData.depth]⟩
  | bl b => exact ⟨tame_bool b, by rw [PyData.depth]⟩
  | int h => exact ⟨tame_int h, by rw [PyData.depth]⟩
  | str h => exact ⟨tame_istr h, by rw [PyData.depth]⟩
inductive Item : PyData → Prop
  | one {d : PyData} : Small d → Item d
  | tup {ds : List PyData} : ds.length ≤ 3 → (∀ d ∈ ds, Small d) → Item (.tuple ds)
  | lst {ds : List PyData} : ds.length ≤ 3 → (∀ d ∈ ds, Small d) → Item (.list ds)
theorem depth_zero : ∀ {ds : List PyData}, (∀ d ∈ ds, d.depth = 0) → PyData.depthAll ds = 0
  | [], _ => by rw [PyData.depthAll]
  | d :: ds, h => by rw [PyData.depthAll, h d List.mem_cons_self, depth_zero fun x hx => h x (List.mem_cons_of_mem _ hx)]; rfl
theorem Item.tame {d : PyData} (s : Item d) : Tame 27 d ∧ d.depth ≤ 1 := by
  cases s with
  | one h => exact ⟨h.tame.1.mono (by decide), by rw [h.tame.2]; decide⟩
  | @tup ds hl h =>
    have z := depth_zero fun d hd => (h d hd).tame.2
    refine ⟨(tame_tup (w := 8) fun d hd => ⟨(h d hd).tame.1, by rw [(h d hd).tame.2]; decide⟩).1.mono ?_, by rw [PyData.depth, z]; decide⟩
    have : ds.length * 9 ≤ 3 * 9 := Nat.mul_le_mul_right _ hl
    omega
  | @lst ds hl h =>
    have z := depth_zero fun d hd => (h d hd).tame.2
    refine ⟨(tame_lst (w := 8) fun d hd => ⟨(h d hd).tame.1, by rw [(h d hd).tame.2]; decide⟩).mono ?_, by rw [PyData.depth, z]; decide⟩
    have : ds.length * 9 ≤ 3 * 9 := Nat.mul_le_mul_right _ hl
    omega
theorem depth_le {n : Nat} : ∀ {ds : List PyData}, (∀ d ∈ ds, d.depth ≤ n) → PyData.depthAll ds ≤ n
  | [], _ => by rw [PyData.depthAll]; exact Nat.zero_le _
  | d :: ds, h => by
    rw [PyData.depthAll]
    have := h d List.mem_cons_self
    have := depth_le fun x hx => h x (List.mem_cons_of_mem _ hx)
    omega
/-- a value near a tree -/
inductive Near : PyData → Prop
  | one {d : PyData} : Small d → Near d
  | tup {ds : List PyData} : ds.length ≤ 300 → (∀ d ∈ ds, Item d) → Near (.tuple ds)
  | lst {ds : List PyData} : ds.length ≤ 300 → (∀ d ∈ ds, Item d) → Near (.list ds)
theorem Near.tame {d : PyData} (s : Near d) : Tame 8400 d ∧ d.depth ≤ 2 := by
  cases s with
  | one h => exact ⟨h.tame.1.mono (by decide), by rw [h.tame.2]; decide⟩
  | @tup ds hl h =>
    have z := depth_le (n := 1) fun d hd => (h d hd).tame.2
    refine ⟨(tame_tup (w := 27) fun d hd => ⟨(h d hd).tame.1, Nat.le_trans (h d hd).tame.2 (by decide)⟩).1.mono ?_, by rw [PyData.depth]; omega⟩
    have : ds.length * 28 ≤ 300 * 28 := Nat.mul_le_mul_right _ hl
    omega
  | @lst ds hl h =>
    have z := depth_le (n := 1) fun d hd => (h d hd).tame.2
    refine ⟨(tame_lst (w := 27) fun d hd => ⟨(h d hd).tame.1, Nat.le_trans (h d hd).tame.2 (by decide)⟩).mono ?_, by rw [PyData.depth]; omega⟩
    have : ds.length * 28 ≤ 300 * 28 := Nat.mul_le_mul_right _ hl
    omega
/-- ([a text], such a value) -/
theorem tame_due {z : Str} {d : PyData} (hz : (PyData.strOk z && decide (z.cps.size ≤ 8)) = true) (n : Near d) : Tame 20000 (.tuple [.list [.str z], d]) := by
  have t1 : Tame 9 (.list [.str z]) := tame_lst (w := 8) (ds := [.str z]) fun x hx => by
    rw [List.mem_singleton.mp hx]; exact ⟨tame_text hz, by rw [PyData.depth]; decide⟩
  have t := tame_tup (w := 8400) (ds := [.list [.str z], d]) fun x hx => by
    rcases List.mem_cons.mp hx with rfl | hx
    · exact ⟨t1.mono (by decide), by simp [PyData.depth, PyData.depthAll]⟩
    · rw [List.mem_singleton.mp hx]; exact ⟨n.tame.1, Nat.le_trans n.tame.2 (by decide)⟩
  exact t.1.mono (by show 2 * 8401 ≤ 20000; decide)
end Hw

set_option Elab.async false
set_option linter.all false
set_option maxRecDepth 100000
set_option maxHeartbeats 4000000
namespace HI
open PySem PySem.Spec L2 PyProof PyProof.Rows Hw
/-- a place of a tree of 200 places at most, seen as data -/
theorem small_pl {x : Int} (h0 : 0 ≤ x) (h1 : x ≤ 200) : Small (.int x) := by
  obtain ⟨n, rfl⟩ := Int.eq_ofNat_of_zero_le h0
  exact .int (by omega)
theorem small_txt {x : Int} (h0 : 0 ≤ x) (h1 : x ≤ 200) : Small (.str (toString x)) := by
  obtain ⟨n, rfl⟩ := Int.eq_ofNat_of_zero_le h0
  exact .str (by omega)
theorem item2 {d e : PyData} (h1 : Small d) (h2 : Small e) : Item (.tuple [d, e]) := .tup (show 2 ≤ 3 by decide) fun x hx => by
  rcases List.mem_cons.mp hx with rfl | hx
  · exact h1
  · rw [List.mem_singleton.mp hx]; exact h2
theorem item2l {d e : PyData} (h1 : Small d) (h2 : Small e) : Item (.list [d, e]) := .lst (show 2 ≤ 3 by decide) fun x hx => by
  rcases List.mem_cons.mp hx with rfl | hx
  · exact h1
  · rw [List.mem_singleton.mp hx]; exact h2
theorem item3 {d e f : PyData} (h1 : Small d) (h2 : Small e) (h3 : Small f) : Item (.tuple [d, e, f]) := .tup (Nat.le_refl 3) fun x hx => by
  rcases List.mem_cons.mp hx with rfl | hx
  · exact h1
  · rcases List.mem_cons.mp hx with rfl | hx
    · exact h2
    · rw [List.mem_singleton.mp hx]; exact h3
/-- ties of such places -/
def Placed (t : Tie) : Prop := 0 ≤ t.1 ∧ t.1 ≤ 200 ∧ 0 ≤ t.2 ∧ t.2 ≤ 200
theorem item_ti {t : Tie} (h : Placed t) : Item (tiD t) := item2 (small_pl h.1 h.2.1) (small_pl h.2.2.1 h.2.2.2)
theorem near_ties {ts : List Tie} (h : ∀ t ∈ ts, Placed t) (hl : ts.length ≤ 300) : Near (.tuple (ts.map tiD)) := .tup (by rw [List.length_map]; exact hl) fun d hd => by
  obtain ⟨t, ht, rfl⟩ := List.mem_map.mp hd
  exact item_ti (h t ht)
theorem near_list {ts : List Tie} (h : ∀ t ∈ ts, Placed t) (hl : ts.length ≤ 300) : Near (.list (ts.map tiD)) := .lst (by rw [List.length_map]; exact hl) fun d hd => by
  obtain ⟨t, ht, rfl⟩ := List.mem_map.mp hd
  exact item_ti (h t ht)
/-- ties, one of them put in another's place -/
theorem near_put {ts us : List Tie} {d : PyData} (h : ∀ t ∈ ts, Placed t) (h2 : ∀ t ∈ us, Placed t) (i : Item d) (hl : ts.length + us.length ≤ 290) : Near (.tuple (ts.map tiD ++ [d] ++ us.map tiD)) := .tup (by simp only [List.length_append, List.length_map, List.length_singleton]; omega) fun x hx => by
  rcases List.mem_append.mp hx with hx | hx
  · rcases List.mem_append.mp hx with hx | hx
    · obtain ⟨t, ht, rfl⟩ := List.mem_map.mp hx
      exact item_ti (h t ht)
    · rw [List.mem_singleton.mp hx]; exact i
  · obtain ⟨t, ht, rfl⟩ := List.mem_map.mp hx
    exact item_ti (h2 t ht)
theorem near_non : Near .none := .one .non
theorem near_nil : Near (.tuple []) := .tup (by decide) fun _ h => by cases h
/-- what a right tree's ties are -/
theorem placed_fine {n : Nat} {ts : List Tie} (h : n ≤ 200) (f : FineW (nsI n) ts) : ∀ t ∈ ts, Placed t := fun t ht => by
  obtain ⟨h1, h2, _⟩ := f.tie t ht
  obtain ⟨i, hi, e1⟩ := List.mem_map.mp h1
  obtain ⟨j, hj, e2⟩ := List.mem_map.mp h2
  have hi := List.mem_range.mp hi
  have hj := List.mem_range.mp hj
  exact ⟨by omega, by omega, by omega, by omega⟩
theorem small_nodict {d : PyData} (s : Small d) : d.hasDict = false := by cases s <;> rw [PyData.hasDict]
theorem all_nodict : ∀ {ds : List PyData}, (∀ d ∈ ds, d.hasDict = false) → PyData.hasDictAll ds = false
  | [], _ => by rw [PyData.hasDictAll]
  | d :: ds, h => by rw [PyData.hasDictAll, h d List.mem_cons_self, all_nodict fun x hx => h x (List.mem_cons_of_mem _ hx)]; rfl
theorem item_nodict {d : PyData} (s : Item d) : d.hasDict = false := by
  cases s with
  | one h => exact small_nodict h
  | tup _ h => rw [PyData.hasDict]; exact all_nodict fun x hx => small_nodict (h x hx)
  | lst _ h => rw [PyData.hasDict]; exact all_nodict fun x hx => small_nodict (h x hx)
theorem near_nodict {d : PyData} (s : Near d) : d.hasDict = false := by
  cases s with
  | one h => exact small_nodict h
  | tup _ h => rw [PyData.hasDict]; exact all_nodict fun x hx => item_nodict (h x hx)
  | lst _ h => rw [PyData.hasDict]; exact all_nodict fun x hx => item_nodict (h x hx)
/-- such a value is told by repr -/
theorem repr_near {X : Cx} {K : PySem.W.Frag} {a : Addr} {x : V} {d : PyData} {H : Hp} {Q : VK} (n : Near d) (h : Dx a H x d) (q : Q (.str d.shown) H) : rRepr K [x] H Q :=
  repr_tame (X := X) (h.dp K _ _ (near_nodict n)) n.tame.1 (by decide) q
/-- (None, a number) -/
theorem repr_none_int {X : Cx} {K : PySem.W.Frag} {x : V} {n : Nat} {H : Hp} {Q : VK} (hn : n ≤ 200) (h : Dp K H x (.tuple [.none, .int (n : Int)])) (q : Q (.str (PyData.tuple [.none, .int (n : Int)]).shown) H) : rRepr K [x] H Q :=
  repr_tame (X := X) h (item2 .non (.int hn)).tame.1 (by decide) q
end HI

set_option Elab.async false
set_option linter.all false
set_option maxRecDepth 100000
set_option maxHeartbeats 4000000
/-! t[::-1] of a tuple -/
namespace Hw
open PySem PySem.Spec L2 PyProof.Rows HT
section
variable {prog : Program} {w : World} {A : Around} {E : Value → Shared → Prop} {s : Shared}
theorem adjust_rev (n : Nat) : Builtin.Slice.sliceAdjust none none (-1) (n : Int) = ((n : Int) - 1, -1) := by
  unfold Builtin.Slice.sliceAdjust
  simp
theorem places_rev (n : Nat) : Builtin.Slice.slicePlaces ((n : Int) - 1) (-1) (-1) = n := by
  unfold Builtin.Slice.slicePlaces
  have h1 : ¬ ((-1 : Int) > 0) := by decide
  simp only [h1, if_false]
  split
  · rename_i h
    rw [show (- -1 : Int) = 1 by decide, Int.ediv_one]
    omega
  · omega
theorem applied_rev {sl : Addr} {vk : Value} {n : Nat} {Q : Int × Int × Nat → Shared → Prop} (hs : s.heap.IsSliceOf sl .none .none vk) (pk : IsPart vk (some (-1))) (h : Q ((n : Int) - 1, -1, n) s) : wpAny (model prog w) A (Builtin.Slice.sliceApplied (.ref sl) (pure (n : Int))) Q E s := by
  obtain ⟨os, hos, hcs, hds⟩ := id hs
  unfold Builtin.Slice.sliceApplied Builtin.Slice.sliceFields
  refine wpAny_bind (wpAny_bind (wpAny_field hos hds (x := .none) rfl (wpAny_bind (wpAny_field hos hds (x := .none) rfl (wpAny_bind (wpAny_field hos hds (x := vk) rfl (wpAny_pure ?_)))))))
  refine wpAny_bind (slicePart_ pk ?_)
  show wpAny _ _ (if ((-1 : Int) == 0) = true then _ else _) _ _ s
  rw [if_neg (by decide)]
  refine wpAny_bind (slicePart_none (wpAny_bind (slicePart_none (wpAny_bind (wpAny_pure ?_)))))
  show wpAny _ _ (match Builtin.Slice.sliceAdjust none none (-1) (n : Int) with | (lo, hi) => pure (lo, (-1 : Int), Builtin.Slice.slicePlaces lo hi (-1))) _ _ s
  rw [adjust_rev n]
  show wpAny _ _ (pure (((n : Int) - 1), (-1 : Int), Builtin.Slice.slicePlaces ((n : Int) - 1) (-1) (-1))) _ _ s
  rw [places_rev]
  exact wpAny_pure h
theorem pick_rev (xs : Array Value) : ((List.range xs.size).filterMap fun (k : Nat) => xs[(((xs.size : Int) - 1) + (k : Int) * (-1)).toNat]?).toArray = xs.toList.reverse.toArray := by
  have e : ((List.range xs.size).filterMap fun (k : Nat) => xs[(((xs.size : Int) - 1) + (k : Int) * (-1)).toNat]?) = ((List.range xs.size).map fun k => xs.size - 1 - k).filterMap (xs[·]?) := by
    rw [List.filterMap_map]
    congr 1
    funext k
    have : (((xs.size : Int) - 1) + (k : Int) * (-1)).toNat = xs.size - 1 - k := by omega
    rw [this]; rfl
  rw [e, PySem.W.krv_range, List.filterMap_reverse, PySem.W.krv_all]
theorem getItem_tuple_rev {t sl : Addr} {items : Array Value} {vk : Value} {Q : Value → Shared → Prop} (ht : IsTup s.heap t items) (hs : s.heap.IsSliceOf sl .none .none vk) (pk : IsPart vk (some (-1)))
    (h : Q (.ref s.heap.objs.size) { s with heap := s.heap.push { cls := .type "tuple", data := .seq items.toList.reverse.toArray } }) (hsz : items.size ≤ sizeLine) : wpAny (model prog w) A (getItem (.ref t) (.ref sl)) Q E s := by
  have htake : sizeOk (.seq items.toList.reverse.toArray) := by
    show items.toList.reverse.toArray.size ≤ sizeLine
    rw [List.size_toArray, List.length_reverse, Array.length_toList]; exact hsz
  obtain ⟨os, hos, hcs, hds⟩ := id hs
  have hTs : s.TypeIs (.ref sl) "slice" := ⟨os, hos, hcs⟩
  unfold getItem
  try with_reducible refine wpAny_holding ?_
  first | refine wpAny_bind (wpAny_pure ?_) | skip
  refine wpAny_bind (wpAny_sequenceKey ht.typeIs (by decide) ?_)
  refine wpAny_bind (wpAny_callSpecial?_slot (name := Str.ofString "__getitem__") ht.typeIs PyProof.Rows.slot_tuple_getitem
    (wpAny_call_entry PyProof.Rows.slot_tuple_getitem ht.typeIs entry_tuple_getitem ?_ (args_tuple_getitem _ _)))
  show wpAny _ _ (Builtin.Tuple.tupleItemsOf (.ref t) >>= _) _ _ s
  refine wpAny_bind (tupleItemsOf_ ht ?_)
  refine wpAny_bind (wpAny_typeOf hTs ?_)
  rw [if_pos (by decide)]
  refine wpAny_bind (applied_rev hs pk ?_)
  show wpAny _ _ (if (((items.size : Int) - 1) == 0 && (-1 : Int) == 1 && items.size == items.size) = true then _ else _) _ _ s
  rw [if_neg (by simp), pick_rev]
  first
    | exact wpAny_bind (m := Builtin.Tuple.tupleExact _) (wpAny_newObj_type (wpAny_pure ⟨_, rfl, wpAny_pure h⟩) htake)
    | exact wpAny_bind (m := Builtin.Tuple.tupleExact _) (wpAny_newObj_type (wpAny_bind (wpAny_pure (wpAny_pure ⟨_, rfl, wpAny_pure h⟩))) htake)
    | exact wpAny_bind (wpAny_bind (m := Builtin.Tuple.tupleExact _) (wpAny_newObj_type (wpAny_pure (wpAny_pure ⟨_, rfl, wpAny_pure h⟩)) htake))
    | exact wpAny_bind (wpAny_bind (m := Builtin.Tuple.tupleExact _) (wpAny_newObj_type (wpAny_pure ⟨_, rfl, wpAny_pure h⟩) htake))
end
section
variable {X : Cx} {e c : Expr} {te : TE} {tk : TO} {p2 pos : Pos}
def tRevT (K : PySem.W.Frag) (te : TE) (tk : TO) : TE := fun σ H Q => te σ H fun x H1 => tk σ H1 fun k H2 => k = some (-1) ∧ ∃ (a : Addr) (xs : List V), x = .ref a ∧ SqT K H2 a xs ∧ ∀ p, H2 p = none → Q (.ref p) (upd H2 p (.tup xs.reverse))
theorem pe_revT {i1 : Int} {j1 : Nat} {q8 q9 : Pos} (he : PE X e te) (hk : PO X (some (.UnaryOp .USub (.Constant (.int i1) j1 q8) q9)) tk) : PE X (.Subscript e (.Slice none none (some (.UnaryOp .USub (.Constant (.int i1) j1 q8) q9)) p2) pos) (tRevT X.K te tk) := by
  refine ⟨fun pins s σ H Q I h => ?_⟩
  refine Subscript_ (thn (he.run pins s σ H _ I h) fun v s1 ⟨x, H1, I1, r1, q1⟩ => ?_)
  refine wpAny_Slice ?_
  rw [evalPart_none]
  refine wpAny_pure ?_
  refine wpAny_pure ?_
  refine thn (hk.run pins s1 σ H1 _ I1 q1) fun vk s3 ⟨k, H3, I3, pk, ek, a, xs, ex, hx, q3⟩ => ?_
  subst ek
  subst ex
  cases r1
  have I4 : Inv X pins σ H3 { s3 with heap := s3.heap.push { cls := .type "slice", data := .fields #[.none, .none, vk] } } := I3.kept (t' := s3.toks) fun b ob q => Heap.get?_push_of_some _ q
  obtain ⟨its, r, ht, hz⟩ := I4.tuple hx
  have hlen : its.toArray.size = xs.length := by rw [List.size_toArray]; exact r.length.symm
  show wpAny (model X.prog X.w) X.A (subscriptTail e (.Slice none none (some (.UnaryOp .USub (.Constant (.int i1) j1 q8) q9)) p2) (.ref a) (.ref s3.heap.objs.size)) (EP X pins σ Q) X.xe { s3 with heap := s3.heap.push { cls := .type "slice", data := .fields #[.none, .none, vk] } }
  refine tail_any ht.typeIs PyProof.Rows.slot_tuple_getitem.lookup (getItem_tuple_rev ht (Heap.IsSliceOf.new ..) pk ?_ (by rw [hlen]; exact hz)) (by with_unfolding_all rfl)
  refine ⟨.ref _, _, I4.laid (t' := s3.toks) (o := .tup xs.reverse) (fun b ob q => Heap.get?_push_of_some _ q) (Nat.le_refl _) ?_, rfl, q3 _ (I4.hok.fresh (Nat.le_refl _))⟩
  exact ⟨by rw [List.length_reverse]; exact hz, its.reverse, r.reverse, IsTup.new _ _⟩
end
end Hw

set_option Elab.async false
set_option linter.all false
set_option maxRecDepth 100000
set_option maxHeartbeats 4000000
namespace Hw
open PySem L2 PyProof.Rows
/-! data made of what is there: in frames σ, from the heap H0 on -/
def MkS (a : Addr) (σ : L2.St) (H0 : Hp) (te : TE) (d : PyData) : Prop := ∀ (H : Hp) (Q : VK), Same H0 H → (∀ v H', Same H H' → Dx a H' v d → Q v H') → te σ H Q
def MkSA (a : Addr) (σ : L2.St) (H0 : Hp) (ta : TA) (ds : List PyData) : Prop := ∀ (H : Hp) (Q : List V → Hp → Prop), Same H0 H → (∀ vs H', Same H H' → DxAll a H' vs ds → Q vs H') → ta σ H Q
theorem dx_tupS {a : Addr} {H : Hp} {v : V} {ds : List PyData} (h : Dx a H v (.tuple ds)) : ∃ t xs, v = .ref t ∧ H t = some (.tup xs) ∧ t ≠ a ∧ DxAll a H xs ds := by
  cases h with
  | flat e => cases v <;> cases e
  | tup h1 h2 h3 => exact ⟨_, _, rfl, h1, h2, h3⟩
theorem DxAll.take {a : Addr} {H : Hp} : ∀ {vs : List V} {ds : List PyData} (n : Nat), DxAll a H vs ds → DxAll a H (vs.take n) (ds.take n)
  | _, _, 0, _ => by rw [List.take_zero, List.take_zero]; exact .nil
  | _, _, n + 1, .nil => .nil
  | _, _, n + 1, .cons x t => .cons x (DxAll.take n t)
theorem DxAll.drop {a : Addr} {H : Hp} : ∀ {vs : List V} {ds : List PyData} (n : Nat), DxAll a H vs ds → DxAll a H (vs.drop n) (ds.drop n)
  | _, _, 0, h => h
  | _, _, n + 1, .nil => .nil
  | _, _, n + 1, .cons x t => DxAll.drop n t
theorem DxAll.rev {a : Addr} {H : Hp} : ∀ {vs : List V} {ds : List PyData}, DxAll a H vs ds → DxAll a H vs.reverse ds.reverse
  | _, _, .nil => .nil
  | _, _, .cons x t => by rw [List.reverse_cons, List.reverse_cons]; exact (DxAll.rev t).append (.cons x .nil)
variable {a : Addr} {σ : L2.St} {H0 : Hp} {te tu : TE} {ta : TA} {d : PyData} {ds es : List PyData}
theorem ms_of (h : MkD te d) (ha : H0 a ≠ none) : MkS a σ H0 te d := fun H Q s q => h a σ H Q (same_some s ha) q
theorem ms_var {i : Nat} {v : V} (e : σ[i]? = some (some v)) (x : Dx a H0 v d) : MkS a σ H0 (tVar i) d := fun H Q s q => ⟨v, e, q v H (Same.refl H) (Dx.keep (.of s) _ _ x)⟩
theorem msa_nil : MkSA a σ H0 tNil [] := fun H Q _ q => q [] H (Same.refl H) .nil
theorem msa_cons (h1 : MkS a σ H0 te d) (h2 : MkSA a σ H0 ta ds) : MkSA a σ H0 (tCons te ta) (d :: ds) := fun H Q s q =>
  h1 H _ s fun v H1 s1 x1 => h2 H1 _ (s.trans s1) fun vs H2 s2 x2 => q (v :: vs) H2 (s1.trans s2) (.cons (Dx.keep (.of s2) _ _ x1) x2)
theorem ms_tup (h : MkSA a σ H0 ta ds) (ha : H0 a ≠ none) (hl : ds.length ≤ 1000) : MkS a σ H0 (tTup ta) (.tuple ds) := fun H Q s q => h H _ s fun vs H1 s1 x1 =>
  ⟨Nat.le_of_lt (small1000 (by rw [x1.length]; exact hl)), fun p hp => q _ _ (s1.trans (same_upd hp)) (.tup upd_same (fun e => same_some (s.trans s1) ha (e ▸ hp)) (DxAll.keep (.of (same_upd hp)) _ _ x1))⟩
theorem ms_lst (h : MkSA a σ H0 ta ds) (ha : H0 a ≠ none) (hl : ds.length ≤ 1000) : MkS a σ H0 (tLst ta) (.list ds) := fun H Q s q => h H _ s fun vs H1 s1 x1 =>
  ⟨Nat.le_of_lt (small1000 (by rw [x1.length]; exact hl)), fun p hp => q _ _ (s1.trans (same_upd hp)) (.lst upd_same (fun e => same_some (s.trans s1) ha (e ▸ hp)) (DxAll.keep (.of (same_upd hp)) _ _ x1))⟩
/-- t + u -/
theorem ms_cat {K : PySem.W.Frag} (h1 : MkS a σ H0 te (.tuple ds)) (h2 : MkS a σ H0 tu (.tuple es)) (ha : H0 a ≠ none) (hl : ds.length + es.length ≤ 1000) : MkS a σ H0 (tOp (rCatA K) te tu) (.tuple (ds ++ es)) := fun H Q s q =>
  h1 H _ s fun v H1 s1 x1 => h2 H1 _ (s.trans s1) fun u H2 s2 x2 => by
    have x1 := Dx.keep (.of s2) _ _ x1
    obtain ⟨t, xs, rfl, e1, n1, y1⟩ := dx_tupS x1
    obtain ⟨r, ys, rfl, e2, n2, y2⟩ := dx_tupS x2
    have l1 := y1.length
    have l2 := y2.length
    have s12 := s1.trans s2
    refine ⟨t, r, xs, ys, rfl, rfl, sqt_of e1, sqt_of e2, Nat.le_of_lt (small1000 (by omega)), fun z => ?_, fun _ z => ?_, fun _ _ p np => ?_⟩
    · subst z
      cases y1
      exact q _ _ s12 x2
    · subst z
      cases y2
      rw [List.append_nil] at *
      exact q _ _ s12 x1
    · have sp := same_upd (o := .tup (xs ++ ys)) np
      exact q _ _ (s12.trans sp) (.tup upd_same (fun e => same_some (s.trans s12) ha (e ▸ np)) (DxAll.keep (.of sp) _ _ (y1.append y2)))
/-- data cut as cutV cuts -/
def cutP (ds : List PyData) (lo hi : Option Int) : List PyData := (ds.drop (HT.sIx ds.length 0 lo)).take (HT.sIx ds.length ds.length hi - HT.sIx ds.length 0 lo)
/-- t[lo:hi] -/
theorem ms_cut {K : PySem.W.Frag} {tl th : TO} {lo hi : Option Int} (h1 : MkS a σ H0 te (.tuple ds)) (hlo : ∀ H (Q : Option Int → Hp → Prop), Q lo H → tl σ H Q) (hhi : ∀ H (Q : Option Int → Hp → Prop), Q hi H → th σ H Q) (ha : H0 a ≠ none) :
    MkS a σ H0 (tSl (rSlA K) te tl th) (.tuple (cutP ds lo hi)) := fun H Q s q => h1 H _ s fun v H1 s1 x1 => hlo _ _ (hhi _ _ (by
    obtain ⟨t, xs, rfl, e1, n1, y1⟩ := dx_tupS x1
    have l1 := y1.length
    refine ⟨t, xs, rfl, sqt_of e1, fun z => ?_, fun _ p np => ?_⟩
    · obtain ⟨z1, z2⟩ := z
      have : cutP ds lo hi = ds := by
        unfold cutP
        rw [← l1, z1, z2, Nat.sub_zero, List.drop_zero, l1, List.take_length]
      rw [this] at q
      exact q _ _ s1 x1
    · have sp := same_upd (o := .tup (cutV xs lo hi)) np
      refine q _ _ (s1.trans sp) (.tup upd_same (fun e => same_some (s.trans s1) ha (e ▸ np)) (DxAll.keep (.of sp) _ _ ?_))
      unfold cutP cutV
      rw [← l1]
      exact (y1.drop _).take _))
/-- t[::-1] -/
theorem ms_rev {K : PySem.W.Frag} {tk : TO} (h1 : MkS a σ H0 te (.tuple ds)) (hk : ∀ H (Q : Option Int → Hp → Prop), Q (some (-1)) H → tk σ H Q) (ha : H0 a ≠ none) : MkS a σ H0 (tRevT K te tk) (.tuple ds.reverse) := fun H Q s q =>
  h1 H _ s fun v H1 s1 x1 => hk _ _ ⟨rfl, by
    obtain ⟨t, xs, rfl, e1, n1, y1⟩ := dx_tupS x1
    refine ⟨t, xs, rfl, sqt_of e1, fun p np => ?_⟩
    have sp := same_upd (o := .tup xs.reverse) np
    exact q _ _ (s1.trans sp) (.tup upd_same (fun e => same_some (s.trans s1) ha (e ▸ np)) (DxAll.keep (.of sp) _ _ y1.rev))⟩
section
variable {r : Addr} {H H' : Hp}
mutual
/-- data beside a, seen beside a place r that was free -/
theorem Dx.move (n : H r = none) (s : SameX a H H') : ∀ (v : V) (d : PyData), Dx a H v d → Dx r H' v d
  | _, .list ds, h => by
    cases h with
    | flat e => exact .flat e
    | lst h1 h2 h3 => exact .lst (s _ _ h2 h1) (ne_of_none h1 n) (DxAll.move n s _ ds h3)
  | _, .tuple ds, h => by
    cases h with
    | flat e => exact .flat e
    | tup h1 h2 h3 => exact .tup (s _ _ h2 h1) (ne_of_none h1 n) (DxAll.move n s _ ds h3)
  | _, .dict ds, h => by
    cases h with
    | flat e => exact .flat e
    | dct h1 h2 h3 h4 => exact .dct (s _ _ h2 h1) (ne_of_none h1 n) h3 h4
  | _, .none, h => by cases h with | flat e => exact .flat e
  | _, .bool _, h => by cases h with | flat e => exact .flat e
  | _, .int _, h => by cases h with | flat e => exact .flat e
  | _, .str _, h => by cases h with | flat e => exact .flat e
theorem DxAll.move (n : H r = none) (s : SameX a H H') : ∀ (vs : List V) (ds : List PyData), DxAll a H vs ds → DxAll r H' vs ds
  | _, [], h => by cases h; exact .nil
  | _, d :: ds, h => by
    cases h with
    | cons h1 h2 => exact .cons (Dx.move n s _ d h1) (DxAll.move n s _ ds h2)
end
end
/-- a list of data, written -/
theorem lst_rawS {Q : VK} (q : ∀ p xs H1, Same H0 H1 → DxAll a H1 xs ds → H1 p = none → Q (.ref p) (upd H1 p (.lst xs))) (m : MkSA a σ H0 ta ds) (hl : ds.length ≤ 1000) : tLst ta σ H0 Q :=
  m H0 _ (Same.refl H0) fun xs H1 s1 x1 => ⟨by rw [x1.length]; exact Nat.le_of_lt (small1000 hl), fun p np => q p xs H1 s1 x1 np⟩
end Hw

set_option Elab.async false
set_option linter.all false
set_option maxRecDepth 100000
set_option maxHeartbeats 4000000
/-! sorted(t), x not in t, of a tuple of data -/
namespace Hw
section
open PySem PySem.Spec PySem.Calls PyProof PyProof.Rows PySem.W
variable {prog : Program} {w : World} {A : Around} {E : Value → Shared → Prop} {s : Shared}
theorem collect_tup {l : Addr} {vs : List Value} {Q : List Value → Shared → Prop} (hl : IsTup s.heap l vs.toArray)
    (h : Q vs { s with heap := (s.heap.push (seqObj "list" #[] 0)).update s.heap.objs.size (Obj.mapSeq (· ++ vs.toArray)) }) (hsz : vs.length ≤ sizeLine) :
    wpAny (model prog w) A (collect (.ref l)) Q E s := by
  obtain ⟨o, ho, hc, n, hd⟩ := id hl
  unfold collect
  refine wpAny_bind (wpAny_runValue (codeAny_builtin entry_proto_collect' ?_))
  show wpAny _ _ (do again (.builtin "list.__iadd__" ⟨[← newList [], .ref l], []⟩)) _ _ s
  refine wpAny_bind (wpAny_newList (wpAny_pure ⟨Code.quiet_builtin _ (by decide +kernel), codeAny_builtin entry_list_iadd' ?_⟩))
  show wpAny _ _ (Builtin.List.listExtendWith (.ref s.heap.objs.size) (.ref l) (.ref s.heap.objs.size)) _ _ { s with heap := s.heap.push (seqObj "list" #[] 0) }
  unfold Builtin.List.listExtendWith
  have ho' : (s.heap.push (seqObj "list" #[] 0)).get? l = some o := Heap.get?_push_of_some _ ho
  refine wpAny_bind (wpAny_typeOf (T := "tuple") ⟨o, ho', hc⟩ ?_)
  have ht : (Value.type "tuple" == Value.type "tuple") = true := by rfl
  rw [if_pos (by rw [ht]; simp)]
  refine wpAny_bind (listItems_at ho' hd ?_)
  refine wpAny_bind (listItems_at (xs := #[]) (n := 0) (Heap.get?_push_size _ rfl) rfl ?_)
  rw [if_neg (by simp)]
  refine wpAny_bind (listUpdate_at (xs := #[]) (n := 0) (Heap.get?_push_size _ rfl) rfl ?_ (Nat.zero_le _) (by show (#[] ++ vs.toArray).size ≤ sizeLine + 1; simp only [Array.size_append, List.size_toArray, List.length_nil]; omega))
  refine wpAny_pure ?_
  show wpAny (model prog w) A (do
      let o ← load s.heap.objs.size
      match o.data with
      | .seq xs _ => pure xs.toList
      | _ => unsupported "internal:collect") Q E { s with heap := (s.heap.push (seqObj "list" #[] 0)).update s.heap.objs.size (Obj.mapSeq (· ++ vs.toArray)) }
  refine wpAny_bind (wpAny_load (get?_update_seq (Heap.get?_push_size _ rfl) _) ?_)
  show wpAny _ _ (pure ((#[] : Array Value) ++ vs.toArray).toList) Q E _
  rw [show ((#[] : Array Value) ++ vs.toArray).toList = vs by simp]
  exact wpAny_pure h
variable {β : Type} {vs : List Value} {bs : List β} {enc : β → PyData} {R : Value → β → Prop}
theorem sorted_tupD {l : Addr} {Q : Value → Shared → Prop} (hl : IsTup s.heap l vs.toArray) (e : EachIs R vs bs) (er : EachIs (fun v b => ∃ as, Reads s.heap v (enc b) as) vs bs) (hal : AllAlike (bs.map enc)) (hk : Sortable (bs.map enc)) (hL : bs.length ≤ sizeLine)
    (hu : ∀ b, b ∈ bs → A.units + 2 + (enc b).depth < cLine) (h : ∀ out, out.length = bs.length → EachIs R out (bs.mergeSort (dataLe false enc)) → Q (.ref (s.heap.objs.size + 1)) { s with heap := sortedAll s.heap vs (List.toArray out) }) :
    wpAny (model prog w) A (call (.builtin "sorted") [.ref l]) Q E s := by
  have er' : EachIs (fun v b => ∃ as, Reads (sortingHeap (copyHeap s.heap vs) (s.heap.objs.size + 1) vs) v (enc b) as) vs bs := er.mono fun _ _ ⟨as, r⟩ => ⟨as, PyProof.Rows.Reads.keeps (fun _ _ => sorting_copy_old) r⟩
  have hL' : vs.length ≤ sizeLine := by rw [e.length]; exact hL
  have S := SortsAt.data (prog := prog) (w := w) (A := A.in1.in1) (s := { s with heap := sortingHeap (copyHeap s.heap vs) (s.heap.objs.size + 1) vs }) (each_map (R := fun v d => ∃ as, Reads (sortingHeap (copyHeap s.heap vs) (s.heap.objs.size + 1) vs) v d as) enc er') hal hk (bound_map hu)
  refine call_function_entry_kw kind_sorted plain_sorted entry_sorted (args_sorted1 _) ?_
  unfold Builtin.«sorted»
  refine wpAny_bind (m := checkCount "sorted" 1 1 _) (wpAny_pure ?_)
  refine wpAny_bind (collect_tup hl ?_ hL')
  refine wpAny_bind (wpAny_newList ?_ hL')
  have hsz : ((s.heap.push (seqObj "list" #[] 0)).update s.heap.objs.size (Obj.mapSeq (· ++ vs.toArray))).objs.size = s.heap.objs.size + 1 := by
    rw [Heap.size_update, size_push']
  show wpAny _ _ _ _ _ { s with heap := copyHeap s.heap vs }
  rw [hsz]
  refine wpAny_bind (wpAny_holding (wpAny_call_entry_kw slot_list_sort ⟨_, copyHeap_at s.heap vs, rfl⟩ entry_list_sort ?body (args_list_sort _)))
  case body =>
    show wpAny (model prog w) A.in1.in1 (Builtin.«list.sort» ⟨[.ref (s.heap.objs.size + 1)], []⟩) _ _ _
    refine wpAny_mono (list_sort_vals (P := fun f s' => f = .done (.ret .none) ∧ Q (.ref (s.heap.objs.size + 1)) s') (s := { s with heap := copyHeap s.heap vs }) (copyHeap_at s.heap vs) S hL' ⟨rfl, h _ (by rw [sortVals_length false rfl]; exact e.length) (sortVals_data false e er' hal)⟩) (fun f s' hf => ?_) fun _ _ e => e
    obtain ⟨rfl, hq⟩ := hf
    exact ⟨_, rfl, wpAny_pure ⟨_, rfl, hq⟩⟩
end
section
open PySem PySem.Spec L2 PyProof.Rows
variable {X : Cx}
def rSortBT (K : PySem.W.Frag) : List V → Hp → VK → Prop := fun vs H Q => ∃ (a : Addr) (bs : List (V × PyData)), vs = [V.ref a] ∧ SqT K H a (bs.map (·.1)) ∧ (∀ b ∈ bs, Dp K H b.1 b.2 ∧ b.2.depth ≤ 50) ∧ PySem.W.AllAlike (bs.map (·.2)) ∧ PySem.W.Sortable (bs.map (·.2)) ∧ bs.length ≤ sizeLine ∧
  ∀ p, H p = none → Q (.ref p) (upd H p (.lst ((bs.mergeSort (PySem.W.dataLe false (·.2))).map (·.1))))
theorem cr_sortBT (hu : X.A.units + 64 < cLine) : CallR X (.builtin "sorted") (rSortBT X.K) := by
  intro pins s σ H vs us Q I r h
  obtain ⟨a, bs, rfl, hs, hd, hal, hk, hL, q⟩ := h
  obtain ⟨its, rv, hl, _⟩ := I.tuple hs
  rw [Vals.ref1 r]
  refine sorted_tupD (β := V × PyData) (vs := its) (bs := bs) (enc := (·.2)) (R := fun v b => RelV b.1 v) hl (each_of_vals (K := X.K) (P := X.prog) rv) (reads_each I (fun b hb => (hd b hb).1) rv) hal hk hL (fun b hb => by have := (hd b hb).2; omega) fun out ho he => ?_
  have hv := vals_of_each he
  obtain ⟨ep, he'⟩ := PyProof.Rows.sortedAll_at s.heap its out.toArray
  have hlen : ((bs.mergeSort (PySem.W.dataLe false (·.2))).map (·.1)).length ≤ sizeLine := by rw [List.length_map, List.length_mergeSort]; exact hL
  exact ⟨.ref _, upd H (s.heap.objs.size + 1) (.lst ((bs.mergeSort (PySem.W.dataLe false (·.2))).map (·.1))), I.laid (t' := s.toks) (fun _ _ => PyProof.Rows.sortedAll_old) (Nat.le_succ _) ⟨hlen, out, ep, hv, he'⟩, rfl, q _ (I.hok.fresh (Nat.le_succ _))⟩
def rNotInT (K : PySem.W.Frag) : R2 := fun x y H Q => ∃ d ds, Dp K H x d ∧ Dp K H y (.tuple ds) ∧ SeqAt.shaped d = true ∧ SeqAt.shaped (.tuple ds) = true ∧ Q (.bl (!ds.any fun z => PyData.eqv z d)) H
theorem op_notInT (hu : X.A.units + 65 < cLine) : OpR X (compareOp .NotIn) (rNotInT X.K) := by
  intro pins s σ H x y v u Q I rx ry h
  obtain ⟨d, ds, hd, he, sd, se, q⟩ := h
  obtain ⟨as, r1⟩ := Dp.reads I d x v hd rx
  obtain ⟨bs, r2⟩ := Dp.reads I (.tuple ds) y u he ry
  exact SeqAt.notIn_tuple_reads r2 r1 (SeqAt.canLay_of_shaped se) (SeqAt.canLay_of_shaped sd) (room_in_shaped sd hu) ⟨.bl _, H, I, rfl, q⟩
end
end Hw

set_option Elab.async false
set_option linter.all false
set_option maxRecDepth 100000
set_option maxHeartbeats 4000000
namespace HI
open PySem PySem.Spec L2 PyProof PyProof.Rows Hw
variable {a : Addr} {σ : L2.St} {H0 : Hp} {te : TE} {ds : List PyData}
/-- list(t) -/
theorem ms_listT {K : PySem.W.Frag} (h : MkS a σ H0 te (.tuple ds)) (ha : H0 a ≠ none) : MkS a σ H0 (tCB (fun xs H Q => ∃ p ys, xs = [.ref p] ∧ (SqL K H p ys ∨ SqT K H p ys) ∧ ∀ l, H l = none → Q (.ref l) (upd H l (.lst ys))) (tCons te tNil)) (.list ds) := fun H Q s q =>
  h H _ s fun v H1 s1 x1 => by
    obtain ⟨t, xs, rfl, e1, n1, y1⟩ := dx_tupS x1
    refine ⟨t, xs, rfl, .inr (sqt_of e1), fun p np => ?_⟩
    have sp := same_upd (o := .lst xs) np
    exact q _ _ (s1.trans sp) (.lst upd_same (fun e => same_some (s.trans s1) ha (e ▸ np)) (DxAll.keep (.of sp) _ _ y1))
theorem dxall_zip {H : Hp} : ∀ {xs : List V} {us : List Tie}, DxAll a H xs (us.map tiD) → ∃ l : List (V × Tie), xs = l.map (·.1) ∧ us = l.map (·.2) ∧ ∀ x ∈ l, Dx a H x.1 (tiD x.2)
  | _, [], h => by cases h; exact ⟨[], rfl, rfl, fun _ z => by cases z⟩
  | _, u :: us, h => by
    cases h with
    | @cons v vs _ _ h1 h2 =>
      obtain ⟨l, rfl, rfl, hl⟩ := dxall_zip h2
      exact ⟨(v, u) :: l, rfl, rfl, fun x hx => by
        rcases List.mem_cons.mp hx with rfl | hx
        · exact h1
        · exact hl x hx⟩
theorem dxall_of {H : Hp} : ∀ {l : List (V × Tie)}, (∀ x ∈ l, Dx a H x.1 (tiD x.2)) → DxAll a H (l.map (·.1)) ((l.map (·.2)).map tiD)
  | [], _ => .nil
  | x :: l, h => .cons (h x List.mem_cons_self) (dxall_of fun y hy => h y (List.mem_cons_of_mem _ hy))
/-- tuple(sorted(t)) of ties -/
theorem ms_sortT {K : PySem.W.Frag} {us : List Tie} (h : MkS a σ H0 te (.tuple (us.map tiD))) (ha : H0 a ≠ none) (hl : us.length ≤ 1000) :
    MkS a σ H0 (tCB (fun xs H Q => ∃ p ys, xs = [.ref p] ∧ ((SqL K H p ys ∧ ∀ l, H l = none → Q (.ref l) (upd H l (.tup ys))) ∨ (SqT K H p ys ∧ Q (.ref p) H))) (tCons (tCB (rSortBT K) (tCons te tNil)) tNil)) (.tuple ((srt us).map tiD)) := fun H Q s q =>
  h H _ s fun v H1 s1 x1 => by
    obtain ⟨t, xs, rfl, e1, n1, y1⟩ := dx_tupS x1
    obtain ⟨l, rfl, rfl, hl3⟩ := dxall_zip y1
    have b1 : (l.map fun x => (x.1, tiD x.2)).map (·.1) = l.map (·.1) := by rw [List.map_map]; rfl
    have b2 : (l.map fun x => (x.1, tiD x.2)).map (·.2) = (l.map (·.2)).map tiD := by rw [List.map_map, List.map_map]; rfl
    have b3 : (l.map fun x => (x.1, tiD x.2)).mergeSort (PySem.W.dataLe false (·.2)) = (l.mergeSort fun x y => leT x.2 y.2).map fun x => (x.1, tiD x.2) := by
      refine (map_ms _ _ _ fun x _ y _ => ?_).symm
      rw [PySem.W.dataLe_eq]
      show leT x.2 y.2 = (!PySem.W.dataLt (tiD y.2) (tiD x.2))
      rw [dataLt_ti]; rfl
    have b4 : (l.mergeSort fun x y => leT x.2 y.2).map (·.2) = srt (l.map (·.2)) := map_ms _ _ _ fun x _ y _ => rfl
    rw [List.length_map] at hl
    refine ⟨t, l.map fun x => (x.1, tiD x.2), rfl, by rw [b1]; exact sqt_of e1, fun b hb => ?_, by rw [b2]; exact alike_ti _, by rw [b2]; exact sortable_ti _, ?_, fun p np => ?_⟩
    · obtain ⟨x, hx, rfl⟩ := List.mem_map.mp hb
      exact ⟨Dx.dp K _ _ (by show (PyData.tuple [.int x.2.1, .int x.2.2]).hasDict = false; simp [PyData.hasDict, PyData.hasDictAll]) (hl3 x hx), depth_ti _⟩
    · rw [List.length_map]
      exact Nat.le_of_lt (smallM2 (by omega))
    · have e5 : ((l.mergeSort fun x y => leT x.2 y.2).map fun x => (x.1, tiD x.2)).map (·.1) = (l.mergeSort fun x y => leT x.2 y.2).map (·.1) := by rw [List.map_map]; rfl
      rw [b3, e5]
      have hm : ∀ x ∈ (l.mergeSort fun x y => leT x.2 y.2), Dx a H1 x.1 (tiD x.2) := fun x hx => hl3 x (List.mem_mergeSort.mp hx)
      rw [← b4] at q
      generalize (l.mergeSort fun x y => leT x.2 y.2) = l' at hm q
      have sp := same_upd (o := .lst (l'.map (·.1))) np
      refine ⟨p, _, rfl, .inl ⟨sql_of upd_same, fun t2 n2 => ?_⟩⟩
      have s2 := sp.trans (same_upd (o := .tup (l'.map (·.1))) n2)
      exact q _ _ (s1.trans s2) (.tup upd_same (fun e => same_some (s.trans (s1.trans sp)) ha (e ▸ n2)) (DxAll.keep (.of s2) _ _ (dxall_of hm)))
/-- what is cut out of ties -/
def cutT (ts : List Tie) (lo hi : Option Int) : List Tie := (ts.drop (HT.sIx ts.length 0 lo)).take (HT.sIx ts.length ts.length hi - HT.sIx ts.length 0 lo)
theorem cutP_ti (ts : List Tie) (lo hi : Option Int) : cutP (ts.map tiD) lo hi = (cutT ts lo hi).map tiD := by
  unfold cutP cutT
  rw [List.length_map, List.map_take, List.map_drop]
theorem mem_cutT {ts : List Tie} {lo hi : Option Int} {t : Tie} (h : t ∈ cutT ts lo hi) : t ∈ ts := List.mem_of_mem_drop (List.mem_of_mem_take h)
theorem len_cutT (ts : List Tie) (lo hi : Option Int) : (cutT ts lo hi).length ≤ ts.length := by
  unfold cutT
  rw [List.length_take, List.length_drop]
  omega
end HI

set_option Elab.async false
set_option linter.all false
set_option maxRecDepth 100000
set_option maxHeartbeats 4000000
namespace HI
open PySem PySem.Spec L2 PyProof PyProof.Rows Hw
abbrev sNearT : Stmt := topS 35
abbrev nNT : List Str := ["pot", "many", "ties", "some", "at", "one", "other", "rest", "odd"]
def spNearT : Sp := fun vs H Q _ => ∃ (a tl : Addr) (n N : Nat) (ts : List Tie) (qs : List Addr), vs = [.ref a, .int (n : Nat), .ref tl] ∧ Pot H a N ∧ N < 1000000 ∧ 1 ≤ n ∧ n ≤ 200 ∧ FineW (nsI n) ts ∧ ts.length ≤ 100 ∧ H tl = some (.tup (qs.map V.ref)) ∧ Paired (TieL H) qs ts ∧
  ∀ (r : Addr) (xs : List V) (ds : List PyData) H', (∀ d ∈ ds, Near d) → ds.length ≤ 30 → DxAll r H' xs ds → H r = none → H' r = some (.lst xs) → SameX a H H' → Pot H' a (N + 2) → Q (.ref r) H'
section
variable {P : Program} {w : World} {K : PySem.W.Frag} {mg : Str → Option Value} {base : Heap}
theorem scNearT : FnScope nNT ["pot", "many", "ties"] (defScope sNearT) := ⟨rfl, rfl, rfl, by decide +kernel, rfl, by decide +kernel, by decide +kernel⟩
theorem rs_unIx {K : PySem.W.Frag} {u : TS} {D : Ends} {σ : L2.St} {H : Hp} {k m i j : Nat} {t p : Addr} {xs : List V} {n : Int} {x y : V} (hk : σ[k]? = some (some (.ref t))) (hm : σ[m]? = some (some (.int n))) (et : SqT K H t xs) (hn : atI xs n = some (.ref p)) (e : SqT K H p [x, y])
    (hu : u D ((σ.set i (some x)).set j (some y)) H) : tSeq (tAsg (tOp (rIxT K) (tVar k) (tVar m)) (gTup K 2 (gCons (gName i) (gCons (gName j) gNil)))) u D σ H :=
  ⟨.ref t, hk, .int n, hm, t, xs, n, _, rfl, rfl, et, hn, p, [x, y], rfl, e, rfl, _, [y], rfl, _, [], rfl, rfl, hu⟩
theorem dx_ti1_keep {r b : Addr} {H H' : Hp} (nb : ∀ xs, H b ≠ some (.tup xs)) (s : SameX b H H') {v : V} {u : Tie} (x : Dx r H v (tiD u)) : Dx r H' v (tiD u) := by
  cases x with
  | flat e => exact .flat e
  | tup h1 h2 h3 =>
    refine .tup (s _ _ (fun e => nb _ (e ▸ h1)) h1) h2 ?_
    cases h3 with
    | cons y1 t1 =>
      cases t1 with
      | cons y2 t2 =>
        cases t2
        cases y1 with
        | flat f1 => cases y2 with | flat f2 => exact .cons (.flat f1) (.cons (.flat f2) .nil)
theorem dxall_ti_keep {r b : Addr} {H H' : Hp} (nb : ∀ xs, H b ≠ some (.tup xs)) (s : SameX b H H') : ∀ {vs : List V} {us : List Tie}, DxAll r H vs (us.map tiD) → DxAll r H' vs (us.map tiD)
  | _, [], h => by cases h; exact .nil
  | _, u :: us, h => by
    cases h with
    | cons h1 h2 => exact .cons (dx_ti1_keep nb s h1) (dxall_ti_keep nb s h2)
theorem dx_ti_keep {r b : Addr} {H H' : Hp} (nb : ∀ xs, H b ≠ some (.tup xs)) (s : SameX b H H') {v : V} {us : List Tie} (x : Dx r H v (.tuple (us.map tiD))) : Dx r H' v (.tuple (us.map tiD)) := by
  cases x with
  | flat e => exact .flat e
  | tup h1 h2 h3 => exact .tup (s _ _ (fun e => nb _ (e ▸ h1)) h1) h2 (dxall_ti_keep nb s h3)
theorem _root_.Hw.Pot.sameX {r a : Addr} {H H' : Hp} {N : Nat} (p : Pot H a N) (s : SameX r H H') (h : a ≠ r) : Pot H' a N := by
  obtain ⟨x, y, z, e, u⟩ := p.ex
  exact ⟨x, y, z, s _ _ h e, u⟩
theorem log2_small {x : Int} (h0 : 0 ≤ x) (h1 : x ≤ 200) : x.natAbs.log2 < 1920 := by
  have : x.natAbs ≤ 200 := by omega
  by_cases z : x.natAbs = 0
  · rw [z]; decide
  · exact (Nat.log2_lt z).mpr (Nat.lt_of_le_of_lt this (Nat.lt_of_lt_of_le (by decide : 200 < 2 ^ 8) (Nat.pow_le_pow_right (by decide) (by decide))))
theorem shaped_near {d : PyData} (n : Near d) : SeqAt.shaped d = true := by
  unfold SeqAt.shaped
  rw [n.tame.1.lay, decide_eq_true (Nat.le_trans n.tame.1.dp (by decide))]; rfl
theorem eqv_nil (ts : List Tie) : PyData.eqv (.tuple (ts.map tiD)) (.tuple []) = ts.isEmpty := by
  cases ts with
  | nil => rw [List.map_nil, PyData.eqv, PyData.eqvAll]; rfl
  | cons t ts => rw [List.map_cons, PyData.eqv, PyData.eqvAll]; first | rfl | (intro a b c d e f; cases f)
theorem dxall_ties {H : Hp} {b : Addr} (nb : ∀ xs, H b ≠ some (.tup xs)) : ∀ {qs : List Addr} {ts : List Tie}, Paired (TieL H) qs ts → DxAll b H (qs.map V.ref) (ts.map tiD)
  | _, _, .nil => .nil
  | _, _, .cons h t => .cons (.tup h (fun e => nb _ (e ▸ h)) (.cons (.flat rfl) (.cons (.flat rfl) .nil))) (dxall_ties nb t)
theorem ok_neart {f fT fO : Addr} {fd fdT fdO : FuncData} {k : Nat} (F : Fun K "_law_near_trees" "_law_near_trees" sNearT f fd) (B : Blt mg) (bt : mg "tuple" = none) (bs : mg "sorted" = none) (bz : mg "str" = none)
    (GT : FnOk P w K mg base CX0 k fT fdT ["pot", "upto"] spTake) (gT : mg "_law_take" = some (.ref fT)) (kT : PySem.W.keepIn K (.ref fT) = true) (bT : Binds K fdT ["pot", "upto"] [])
    (GO : FnOk P w K mg base CX0 k fO fdO ["pot", "some"] (spOf2 K)) (gO : mg "_law_of" = some (.ref fO)) (kO : PySem.W.keepIn K (.ref fO) = true) (bO : Binds K fdO ["pot", "some"] []) :
    FnOk P w K mg base CX0 (k + 1) f fd ["pot", "many", "ties"] spNearT := by
  refine F.ok scNearT (fun vs H Q E h => ?_) (fun cdv A outer s H vs Q E hr h => ?_)
  · obtain ⟨a, tl, n, N, ts, qs, rfl, _⟩ := h
    rfl
  · obtain ⟨a, tl, n, N, ts, qs, rfl, hP, hN, n1, n2, fine, hts, et, hq, q⟩ := h
    have hu := hu_of hr
    have hu64 := hr.units
    have hu65 : (A.deeper (envOfC "_law_near_trees" (defScope sNearT) s.heap.objs.size f cdv)).units + 65 < cLine := by have := hr.un; omega
    refine ⟨_, pss_cons (ps_par (i := 3) (j := 4) rfl scNearT.nd rfl rfl (by decide) rfl rfl (pa_cons (pe_lst
        (pa_cons (pv 2) (pa_cons (pe_callTy call_list_of (by rfl) B.list PyProof.Rows.boot_list (pa_cons (pv 2) pa_nil))
        (pa_cons (pe_slice sl_tupA (pv 2) (po_some pe_int) po_none) (pa_cons (pe_revT (pv 2) (po_some (pe_un un_neg pe_int)))
        (pa_cons (pe_op op_catA (pv 2) (pe_slice sl_tupA (pv 2) (po_some (pe_un un_neg pe_int)) po_none)) (pa_cons (pe_tup pa_nil) (pa_cons pe_non
        (pa_cons (pe_op op_catA (pv 2) (pe_tup (pa_cons (pe_tup (pa_cons pe_int (pa_cons (pv 1) pa_nil))) pa_nil))) pa_nil)))))))))
        (pa_cons pe_int pa_nil)) rfl)
      (pss_cons (ps_if (pt_cmpR (op_neD hu64) (pv 2) (pe_tup pa_nil) (nomark _))
        (pss_cons (ps_set (i := 4) scNearT.nd rfl (.inl rfl) (pe_call GT hr (by rfl) gT kT bT .nil pass0 (pa_cons (pv 0) (pa_cons (pe_callB call_len_seq (by rfl) B.len PySem.boot_len (pa_cons (pv 2) pa_nil)) pa_nil))))
        (pss_cons (ps_asg (pe_ix ix_tup (pv 2) (pv 4) (fun _ _ => rfl)) (pg_tup rfl (pgs_cons (pg_name (i := 5) scNearT.nd rfl (.inl rfl)) (pgs_cons (pg_name (i := 6) scNearT.nd rfl (.inl rfl)) pgs_nil))))
        (pss_cons (ps_set (i := 7) scNearT.nd rfl (.inl rfl) (pe_op op_catA (pe_slice sl_tupA (pv 2) po_none (po_some (pv 4))) (pe_slice sl_tupA (pv 2) (po_some (pe_op op_add (pv 4) pe_int)) po_none)))
        (pss_cons (ps_set (i := 8) scNearT.nd rfl (.inl rfl) (pe_call GO hr (by rfl) gO kO bO .nil pass0 (pa_cons (pv 0) (pa_cons (pe_lst (pa_cons (pe_tup (pa_cons pe_int (pa_cons pe_int pa_nil))) (pa_cons (pe_tup (pa_cons pe_int (pa_cons pe_int pa_nil))) (pa_cons (pe_tup (pa_cons pe_int (pa_cons (pe_op op_sub (pv 1) pe_int) pa_nil))) pa_nil)))) pa_nil))))
        (pss_cons (ps_expr (pe_bm PySem.F.plainAttrs_list PySem.F.slot_list_extend PySem.F.type_list_extend mt_extend (pv 3) (pa_cons (pe_lst
          (pa_cons (pe_callTy call_tuple_of (by rfl) bt PyProof.Rows.boot_tuple (pa_cons (pe_callB (cr_sortBT hu64) (by rfl) bs (by decide +kernel) (pa_cons (pe_op op_catA (pv 7) (pe_tup (pa_cons (pe_tup (pa_cons (pv 6) (pa_cons (pv 5) pa_nil))) pa_nil))) pa_nil)) pa_nil))
          (pa_cons (pe_callTy call_tuple_of (by rfl) bt PyProof.Rows.boot_tuple (pa_cons (pe_callB (cr_sortBT hu64) (by rfl) bs (by decide +kernel) (pa_cons (pe_op op_catA (pv 7) (pe_tup (pa_cons (pv 8) pa_nil))) pa_nil)) pa_nil)) pa_nil))) pa_nil)))
        (pss_cons (ps_expr (pe_bm PySem.F.plainAttrs_list PySem.F.slot_list_extend PySem.F.type_list_extend mt_extend (pv 3) (pa_cons (pe_lst
          (pa_cons (pe_op op_catA (pe_op op_catA (pe_slice sl_tupA (pv 2) po_none (po_some (pv 4))) (pe_tup (pa_cons (pe_lst (pa_cons (pv 5) (pa_cons (pv 6) pa_nil))) pa_nil))) (pe_slice sl_tupA (pv 2) (po_some (pe_op op_add (pv 4) pe_int)) po_none))
          (pa_cons (pe_op op_catA (pe_op op_catA (pe_slice sl_tupA (pv 2) po_none (po_some (pv 4))) (pe_tup (pa_cons (pe_tup (pa_cons (pv 5) (pa_cons (pv 6) (pa_cons pe_int pa_nil)))) pa_nil))) (pe_slice sl_tupA (pv 2) (po_some (pe_op op_add (pv 4) pe_int)) po_none)) pa_nil))) pa_nil)))
        (pss_cons (ps_expr (pe_bm PySem.F.plainAttrs_list PySem.F.slot_list_extend PySem.F.type_list_extend mt_extend (pv 3) (pa_cons (pe_lst
          (pa_cons (pe_op op_catA (pe_op op_catA (pe_slice sl_tupA (pv 2) po_none (po_some (pv 4))) (pe_tup (pa_cons (pe_tup (pa_cons pe_bl (pa_cons (pv 6) pa_nil))) pa_nil))) (pe_slice sl_tupA (pv 2) (po_some (pe_op op_add (pv 4) pe_int)) po_none))
          (pa_cons (pe_op op_catA (pe_op op_catA (pe_slice sl_tupA (pv 2) po_none (po_some (pv 4))) (pe_tup (pa_cons (pe_tup (pa_cons (pe_callTy call_str_int (by rfl) bz PyProof.Rows.boot_str (pa_cons (pv 5) pa_nil)) (pa_cons (pv 6) pa_nil))) pa_nil))) (pe_slice sl_tupA (pv 2) (po_some (pe_op op_add (pv 4) pe_int)) po_none)) pa_nil))) pa_nil)))
        (pss_cons (ps_expr (pe_bm PySem.F.plainAttrs_list PySem.F.slot_list_append PySem.F.type_list_append mt_append (pv 3)
          (pa_cons (pe_op op_catA (pe_op op_catA (pe_slice sl_tupA (pv 2) po_none (po_some (pv 4))) (pe_tup (pa_cons pe_non pa_nil))) (pe_slice sl_tupA (pv 2) (po_some (pe_op op_add (pv 4) pe_int)) po_none)) pa_nil)))
        (pss_one (ps_if (pt_cmpR (op_notInT hu65) (pe_tup (pa_cons pe_int (pa_cons (pe_op op_sub (pv 1) pe_int) pa_nil))) (pv 2) (by rfl))
          (pss_one (ps_expr (pe_bm PySem.F.plainAttrs_list PySem.F.slot_list_append PySem.F.type_list_append mt_append (pv 3)
            (pa_cons (pe_callTy call_tuple_of (by rfl) bt PyProof.Rows.boot_tuple (pa_cons (pe_callB (cr_sortBT hu64) (by rfl) bs (by decide +kernel) (pa_cons (pe_op op_catA (pv 2) (pe_tup (pa_cons (pe_tup (pa_cons pe_int (pa_cons (pe_op op_sub (pv 1) pe_int) pa_nil))) pa_nil))) pa_nil)) pa_nil)) pa_nil)))) pss_nil)))))))))) pss_nil)
      (pss_one (ps_ret (pv 3)))), ?_⟩
    have nb : ∀ xs, H a ≠ some (.tup xs) := by
      obtain ⟨_, _, _, e, _⟩ := hP.ex
      intro xs z
      rw [e] at z
      cases z
    have xt : Dx a H (.ref tl) (.tuple (ts.map tiD)) := .tup et (fun e => nb _ (e ▸ et)) (dxall_ties nb hq)
    have lt : (ts.map tiD).length = ts.length := List.length_map _
    have pos1 : ∀ (i : Int) (σ : L2.St) (H : Hp) (Q : Option Int → Hp → Prop), Q (some i) H → tPart (tC (.int i)) σ H Q := fun i σ H Q q => ⟨i, rfl, q⟩
    refine rs_par ?_
    refine r_cons (lst_rawS (a := a) (ds := [.tuple (ts.map tiD), .list (ts.map tiD), .tuple (cutP (ts.map tiD) (some 1) none), .tuple (ts.map tiD).reverse, .tuple (ts.map tiD ++ cutP (ts.map tiD) (some (-1)) none), .tuple [], .none, .tuple (ts.map tiD ++ [.tuple [.int 0, .int (n : Int)]])]) (fun r xs1 H1 s1 x1 nr => ?_)
      (msa_cons (ms_var rfl xt) (msa_cons (ms_listT (ms_var rfl xt) hP.some) (msa_cons (ms_cut (ms_var rfl xt) (fun _ _ q => ⟨_, rfl, q⟩) (fun _ _ q => q) hP.some) (msa_cons (ms_rev (ms_var rfl xt) (fun _ _ q => ⟨_, rfl, _, rfl, q⟩) hP.some)
        (msa_cons (ms_cat (ms_var rfl xt) (ms_cut (ms_var rfl xt) (fun _ _ q => ⟨_, rfl, _, rfl, q⟩) (fun _ _ q => q) hP.some) hP.some ?_) (msa_cons (ms_tup msa_nil hP.some (by decide)) (msa_cons (ms_of (mk_c rfl) hP.some)
        (msa_cons (ms_cat (ms_var rfl xt) (ms_tup (msa_cons (ms_tup (msa_cons (ms_of (mk_c rfl) hP.some) (msa_cons (ms_var rfl (.flat rfl)) msa_nil)) hP.some (by show 2 ≤ 1000; decide)) msa_nil) hP.some (by show 1 ≤ 1000; decide)) hP.some ?_) msa_nil)))))))) (by show 8 ≤ 1000; decide))
    · refine ⟨.ref r, .int 0, rfl, ?_⟩
      have nra : r ≠ a := fun e => (hP.same s1).some (e ▸ nr)
      have s2 := same_upd (o := .lst xs1) nr
      have e2 : (upd H1 r (.lst xs1)) r = some (.lst xs1) := upd_same
      have x2 := x1.move nr (.of s2)
      have s12 := s1.trans s2
      generalize (upd H1 r (.lst xs1)) = H2 at s2 e2 x2 s12 ⊢
      have pf := placed_fine n2 fine
      have near0 := near_ties pf (by omega)
      have near1 : ∀ d ∈ [PyData.tuple (ts.map tiD), .list (ts.map tiD), .tuple (cutP (ts.map tiD) (some 1) none), .tuple (ts.map tiD).reverse, .tuple (ts.map tiD ++ cutP (ts.map tiD) (some (-1)) none), .tuple [], .none, .tuple (ts.map tiD ++ [.tuple [.int 0, .int (n : Int)]])], Near d := by
        intro d hd
        simp only [List.mem_cons, List.not_mem_nil, or_false] at hd
        have hc := fun lo hi => len_cutT ts lo hi
        rcases hd with rfl | rfl | rfl | rfl | rfl | rfl | rfl | rfl
        · exact near0
        · exact near_list pf (by omega)
        · rw [cutP_ti]; exact near_ties (fun t h => pf t (mem_cutT h)) (by have := hc (some 1) none; omega)
        · rw [← List.map_reverse]; exact near_ties (fun t h => pf t (List.mem_reverse.mp h)) (by rw [List.length_reverse]; omega)
        · rw [cutP_ti, ← List.map_append]
          refine near_ties (fun t h => ?_) ?_
          · rcases List.mem_append.mp h with h | h
            · exact pf t h
            · exact pf t (mem_cutT h)
          · rw [List.length_append]; have := hc (some (-1)) none; omega
        · exact near_nil
        · exact near_non
        · have := near_put (us := []) pf (fun _ z => nomatch z) (item2 (d := .int ((0 : Nat) : Int)) (e := .int (n : Int)) (.int (by decide)) (.int n2)) (by simp; omega)
          rw [List.map_nil, List.append_nil] at this
          exact this
      refine ⟨.ref tl, rfl, Nat.zero_le _, fun l nl => ⟨.tuple (ts.map tiD), .tuple [], Dx.dp K _ _ (near_nodict near0) (Dx.keep (.of (s12.trans (same_upd nl))) _ _ xt), .tup (sqt_of upd_same) .nil, shaped_near near0, by decide +kernel, _, rfl, ?_⟩⟩
      rw [eqv_nil]
      have s3 := s12.trans (same_upd (o := .tup []) nl)
      have e3 := (same_upd (o := .tup []) nl) _ _ e2
      have x3 := DxAll.keep (.of (same_upd (o := .tup []) nl)) _ _ x2
      have s23 := same_upd (o := .tup []) nl
      generalize (upd H2 l (.tup [])) = H3 at s3 e3 x3 s23 ⊢
      cases hte : ts.isEmpty with
      | true =>
        refine ite2 (fun z => nomatch z) fun _ => ?_
        exact ⟨.ref r, rfl, q r xs1 _ H3 near1 (by show 8 ≤ 30; decide) x3 (s1.free nr) e3 (.of s3) ((hP.same s3).mono (by omega))⟩
      | false =>
        refine ite2 (fun _ => ?_) (fun z => absurd rfl z)
        have hne : ts ≠ [] := fun z => by rw [z] at hte; cases hte
        have t0 : 0 < ts.length := List.length_pos_iff.mpr hne
        refine rs_set ?_
        have lq : (qs.map V.ref).length = ts.length := by rw [List.length_map, hq.length]
        refine ⟨.ref a, rfl, .ref tl, rfl, tl, qs.map V.ref, rfl, .inr (sqt_of (s3 _ _ et)), a, _, N, rfl, hP.same s3, by omega, by rw [lq]; omega, by rw [lq]; omega, fun j H4 j0 j1 s4 P4 => ?_⟩
        rw [lq] at j1
        obtain ⟨i, rfl⟩ := Int.eq_ofNat_of_zero_le j0
        have hi : i < ts.length := by omega
        have nta : tl ≠ a := fun e => nb _ (e ▸ et)
        have et4 := s4 _ _ nta (s3 _ _ et)
        have hiq : i < qs.length := by rw [hq.length]; exact hi
        have hgq : qs[i]? = some qs[i] := List.getElem?_eq_getElem hiq
        obtain ⟨g, hgt, eg⟩ := L2.paired_get hq hgq
        have gq : (qs.map V.ref)[i]? = some (.ref qs[i]) := by rw [List.getElem?_map, hgq]; rfl
        have eg4 : TieL H4 qs[i] g := s4 _ _ (fun e => nb _ (e ▸ eg)) (s3 _ _ eg)
        refine rs_unIx (x := .int g.1) (y := .int g.2) rfl rfl (sqt_of et4) (atI_nat gq) (sqt_of eg4) ?_
        -- all that is there, beside r
        have x4 : DxAll r H4 xs1 _ := DxAll.move nr ((SameX.of (s2.trans s23)).trans s4) _ _ x1
        have xt4 : Dx r H4 (.ref tl) (.tuple (ts.map tiD)) := Dx.move (s1.free nr) ((SameX.of s3).trans s4) _ _ xt
        have e4 := s4 _ _ nra e3
        have nr4 : H4 r ≠ none := by rw [e4]; exact fun z => nomatch z
        refine rs_set ?_
        refine ms_cat (a := r) (ms_cut (ms_var rfl xt4) (fun _ _ q => q) (fun _ _ q => ⟨_, rfl, _, rfl, q⟩) nr4) (ms_cut (ms_var rfl xt4) (fun _ _ q => ⟨.int (i : Nat), rfl, _, _, rfl, rfl, _, rfl, q⟩) (fun _ _ q => q) nr4) nr4 ?_ H4 _ (Same.refl _) fun vR H5 s5 xR => ?_
        · rw [cutP_ti, cutP_ti, List.length_map, List.length_map]
          have h1 := len_cutT ts none (some ((i : Nat) : Int))
          have h2 := len_cutT ts (some (((i : Nat) : Int) + 1)) none
          omega
        have P5 := P4.same s5
        have x5 := DxAll.keep (.of s5) _ _ x4
        have xt5 := Dx.keep (.of s5) _ _ xt4
        have e5 := s5 _ _ e4
        have nr5 : H5 r ≠ none := by rw [e5]; exact fun z => nomatch z
        refine rs_set ?_
        refine ⟨.ref a, rfl, ?_⟩
        refine r_cons (lst_rawS (a := r) (ds := [.tuple [.int 0, .int 0], .tuple [.int 0, .int 1], .tuple [.int 0, .int ((n : Int) - 1)]]) (fun lo xsO H6 s6 x6 nlo => ?_)
          (msa_cons (ms_tup (msa_cons (ms_of (mk_c rfl) nr5) (msa_cons (ms_of (mk_c rfl) nr5) msa_nil)) nr5 (by show 2 ≤ 1000; decide))
          (msa_cons (ms_tup (msa_cons (ms_of (mk_c rfl) nr5) (msa_cons (ms_of (mk_c rfl) nr5) msa_nil)) nr5 (by show 2 ≤ 1000; decide))
          (msa_cons (ms_tup (msa_cons (ms_of (mk_c rfl) nr5) (msa_cons (fun H Q _ q => ⟨.int (n : Int), rfl, _, _, rfl, rfl, q _ H (Same.refl H) (.flat rfl)⟩) msa_nil)) nr5 (by show 2 ≤ 1000; decide)) msa_nil))) (by show 3 ≤ 1000; decide))
        have P6 := (P5.same s6).same (same_upd (o := .lst xsO) nlo)
        have s57 := s6.trans (same_upd (o := .lst xsO) nlo)
        have lO := x6.length
        refine .inl ⟨a, lo, xsO, N + 1, rfl, P6, by omega, sql_of upd_same, fun e => (P5.same s6).some (e ▸ nlo), by rw [lO]; show 0 < 3; decide, by rw [lO]; show 3 < 1000000000; decide, fun ix v H7 hv s7 P7 => ?_⟩
        obtain ⟨dO, hdO, xO⟩ := DxAll.at x6 hv
        have sx7 : SameX a H5 H7 := (SameX.of s57).trans s7
        have x7 : DxAll r H7 xs1 _ := DxAll.move nr ((SameX.of (s2.trans s23)).trans (s4.trans ((SameX.of s5).trans sx7))) _ _ x1
        have xt7 : Dx r H7 (.ref tl) (.tuple (ts.map tiD)) := Dx.move (s1.free nr) ((SameX.of s3).trans (s4.trans ((SameX.of s5).trans sx7))) _ _ xt
        have e7 := sx7 _ _ nra e5
        have nr7 : H7 r ≠ none := by rw [e7]; exact fun z => nomatch z
        have nb5 : ∀ xs, H5 a ≠ some (.tup xs) := by
          obtain ⟨_, _, _, e, _⟩ := P5.ex
          intro xs z
          rw [e] at z
          cases z
        have nb6 : ∀ xs, H6 a ≠ some (.tup xs) := fun xs z => by
          obtain ⟨_, _, _, e, _⟩ := (P5.same s6).ex
          rw [e] at z
          cases z
        rw [cutP_ti, cutP_ti, ← List.map_append] at xR
        have hus : ∀ t ∈ cutT ts none (some ((i : Nat) : Int)) ++ cutT ts (some (((i : Nat) : Int) + 1)) none, Placed t := fun t h => by
          rcases List.mem_append.mp h with h | h
          · exact pf t (mem_cutT h)
          · exact pf t (mem_cutT h)
        have lus : (cutT ts none (some ((i : Nat) : Int)) ++ cutT ts (some (((i : Nat) : Int) + 1)) none).length ≤ 200 := by
          have h1 := len_cutT ts none (some ((i : Nat) : Int))
          have h2 := len_cutT ts (some (((i : Nat) : Int) + 1)) none
          rw [List.length_append]; omega
        generalize cutT ts none (some ((i : Nat) : Int)) ++ cutT ts (some (((i : Nat) : Int) + 1)) none = us at xR hus lus
        have xR7 := dx_ti_keep nb5 sx7 xR
        obtain ⟨o, hoP, rfl⟩ : ∃ o : Tie, Placed o ∧ dO = tiD o := by
          simp only [List.mem_cons, List.not_mem_nil, or_false] at hdO
          rcases hdO with rfl | rfl | rfl
          · exact ⟨(0, 0), by unfold Placed; decide, rfl⟩
          · exact ⟨(0, 1), by unfold Placed; decide, rfl⟩
          · exact ⟨(0, (n : Int) - 1), ⟨by show (0 : Int) ≤ 0; decide, by show (0 : Int) ≤ 200; decide, by show (0 : Int) ≤ (n : Int) - 1; omega, by show (n : Int) - 1 ≤ 200; omega⟩, rfl⟩
        have xO7 := dx_ti1_keep nb6 ((SameX.of (same_upd (o := .lst xsO) nlo)).trans s7) xO
        clear x4 xt4 x5 xt5 xR xO hdO hv
        have gm := pf g (List.mem_of_getElem? hgt)
        refine rs_bm ⟨.ref r, rfl, .inl ⟨rfl, _, sql_of e7⟩, ?_⟩
        refine r_cons (lst_rawS (a := r) (ds := [.tuple ((srt (us ++ [(g.2, g.1)])).map tiD), .tuple ((srt (us ++ [o])).map tiD)]) (fun p2 xs2 H8 s8 x8 np2 => ?_)
          (msa_cons (ms_sortT ?_ nr7 (by rw [List.length_append]; show us.length + 1 ≤ 1000; omega)) (msa_cons (ms_sortT ?_ nr7 (by rw [List.length_append]; show us.length + 1 ≤ 1000; omega)) msa_nil)) (by show 2 ≤ 1000; decide))
        · have l1 : xs1.length = 8 := x7.length
          have l2 : xs2.length = 2 := x8.length
          have s8b := same_upd (o := .lst xs2) np2
          refine ⟨r, p2, _, _, rfl, rfl, s8b _ _ (s8 _ _ e7), upd_same, by rw [l1, l2]; exact Nat.le_of_lt (smallM2 (by show 8 + 2 ≤ _; decide)), ?_⟩
          have sx9 : SameX r H7 (upd (upd H8 p2 (.lst xs2)) r (.lst (xs1 ++ xs2))) := fun b o hb e => by
            rw [upd_ne hb]
            exact s8b _ _ (s8 _ _ e)
          have x9 := DxAll.append (DxAll.keep sx9 _ _ x7) (DxAll.keep (fun b o hb e => by rw [upd_ne hb]; exact s8b _ _ e : SameX r H8 (upd (upd H8 p2 (.lst xs2)) r (.lst (xs1 ++ xs2)))) _ _ x8)
          have e9 : (upd (upd H8 p2 (.lst xs2)) r (.lst (xs1 ++ xs2))) r = some (.lst (xs1 ++ xs2)) := upd_same
          generalize (upd (upd H8 p2 (.lst xs2)) r (.lst (xs1 ++ xs2))) = H9 at sx9 x9 e9 ⊢
          have xt9 := Dx.keep sx9 _ _ xt7
          have nr9 : H9 r ≠ none := by rw [e9]; exact fun z => nomatch z
          have c1 : (cutP (ts.map tiD) none (some ((i : Nat) : Int))).length ≤ 100 := by rw [cutP_ti, List.length_map]; exact Nat.le_trans (len_cutT _ _ _) hts
          have c2 : (cutP (ts.map tiD) (some (((i : Nat) : Int) + 1)) none).length ≤ 100 := by rw [cutP_ti, List.length_map]; exact Nat.le_trans (len_cutT _ _ _) hts
          -- a thing in place of a tie
          have put : ∀ {K : PySem.W.Frag} {te : TE} {d : PyData} {H0 : Hp} {σ : L2.St}, H0 r ≠ none → Dx r H0 (.ref tl) (.tuple (ts.map tiD)) → σ[2]? = some (some (.ref tl)) → σ[4]? = some (some (.int ((i : Nat) : Int))) → MkS r σ H0 te d →
              MkS r σ H0 (tOp (rCatA K) (tOp (rCatA K) (tSl (rSlA K) (tVar 2) tNoPart (tPart (tVar 4))) (tTup (tCons te tNil))) (tSl (rSlA K) (tVar 2) (tPart (tOp (rI0 fun i j => V.int (i + j)) (tVar 4) (tC (V.int 1)))) tNoPart)) (.tuple (cutP (ts.map tiD) none (some ((i : Nat) : Int)) ++ [d] ++ cutP (ts.map tiD) (some (((i : Nat) : Int) + 1)) none)) := fun nr0 xt0 k2 k4 m =>
            ms_cat (ms_cat (ms_cut (ms_var k2 xt0) (fun _ _ q => q) (fun _ _ q => ⟨_, k4, _, rfl, q⟩) nr0) (ms_tup (msa_cons m msa_nil) nr0 (by show 1 ≤ 1000; decide)) nr0 (by show _ + 1 ≤ 1000; omega))
              (ms_cut (ms_var k2 xt0) (fun _ _ q => ⟨.int ((i : Nat) : Int), k4, _, _, rfl, rfl, _, rfl, q⟩) (fun _ _ q => q) nr0) nr0 (by rw [List.length_append]; show _ + 1 + _ ≤ 1000; omega)
          refine rs_bm ⟨.ref r, rfl, .inl ⟨rfl, _, sql_of e9⟩, ?_⟩
          refine r_cons (lst_rawS (a := r) (fun p3 xs3 H10 s10 x10 np3 => ?_)
            (msa_cons (put nr9 xt9 rfl rfl (ms_lst (msa_cons (ms_var rfl (.flat rfl)) (msa_cons (ms_var rfl (.flat rfl)) msa_nil)) nr9 (by show 2 ≤ 1000; decide)))
            (msa_cons (put nr9 xt9 rfl rfl (ms_tup (msa_cons (ms_var rfl (.flat rfl)) (msa_cons (ms_var rfl (.flat rfl)) (msa_cons (ms_of (mk_c rfl) nr9) msa_nil))) nr9 (by show 3 ≤ 1000; decide))) msa_nil)) (by show 2 ≤ 1000; decide))
          have l3 : xs3.length = 2 := x10.length
          have s10b := same_upd (o := .lst xs3) np3
          refine ⟨r, p3, _, _, rfl, rfl, s10b _ _ (s10 _ _ e9), upd_same, by rw [List.length_append, l1, l2, l3]; exact Nat.le_of_lt (smallM2 (by show 8 + 2 + 2 ≤ _; decide)), ?_⟩
          have sx11 : SameX r H9 (upd (upd H10 p3 (.lst xs3)) r (.lst (xs1 ++ xs2 ++ xs3))) := fun b o hb e => by
            rw [upd_ne hb]
            exact s10b _ _ (s10 _ _ e)
          have x11 := DxAll.append (DxAll.keep sx11 _ _ x9) (DxAll.keep (fun b o hb e => by rw [upd_ne hb]; exact s10b _ _ e : SameX r H10 (upd (upd H10 p3 (.lst xs3)) r (.lst (xs1 ++ xs2 ++ xs3)))) _ _ x10)
          have e11 : (upd (upd H10 p3 (.lst xs3)) r (.lst (xs1 ++ xs2 ++ xs3))) r = some (.lst (xs1 ++ xs2 ++ xs3)) := upd_same
          generalize (upd (upd H10 p3 (.lst xs3)) r (.lst (xs1 ++ xs2 ++ xs3))) = H11 at sx11 x11 e11 ⊢
          have xt11 := Dx.keep sx11 _ _ xt9
          have nr11 : H11 r ≠ none := by rw [e11]; exact fun z => nomatch z
          refine rs_bm ⟨.ref r, rfl, .inl ⟨rfl, _, sql_of e11⟩, ?_⟩
          refine r_cons (lst_rawS (a := r) (fun p4 xs4 H12 s12' x12 np4 => ?_)
            (msa_cons (put nr11 xt11 rfl rfl (ms_tup (msa_cons (ms_of (mk_c rfl) nr11) (msa_cons (ms_var rfl (.flat rfl)) msa_nil)) nr11 (by show 2 ≤ 1000; decide)))
            (msa_cons (put nr11 xt11 rfl rfl (ms_tup (msa_cons (d := .str (toString g.1)) (fun H Q _ q => ⟨.int g.1, rfl, g.1, rfl, log2_small gm.1 gm.2.1, q _ H (Same.refl H) (.flat rfl)⟩) (msa_cons (ms_var rfl (.flat rfl)) msa_nil)) nr11 (by show 2 ≤ 1000; decide))) msa_nil)) (by show 2 ≤ 1000; decide))
          have l4 : xs4.length = 2 := x12.length
          have s12b := same_upd (o := .lst xs4) np4
          refine ⟨r, p4, _, _, rfl, rfl, s12b _ _ (s12' _ _ e11), upd_same, by rw [List.length_append, List.length_append, l1, l2, l3, l4]; exact Nat.le_of_lt (smallM2 (by show 8 + 2 + 2 + 2 ≤ _; decide)), ?_⟩
          have sx13 : SameX r H11 (upd (upd H12 p4 (.lst xs4)) r (.lst (xs1 ++ xs2 ++ xs3 ++ xs4))) := fun b o hb e => by
            rw [upd_ne hb]
            exact s12b _ _ (s12' _ _ e)
          have x13 := DxAll.append (DxAll.keep sx13 _ _ x11) (DxAll.keep (fun b o hb e => by rw [upd_ne hb]; exact s12b _ _ e : SameX r H12 (upd (upd H12 p4 (.lst xs4)) r (.lst (xs1 ++ xs2 ++ xs3 ++ xs4)))) _ _ x12)
          have e13 : (upd (upd H12 p4 (.lst xs4)) r (.lst (xs1 ++ xs2 ++ xs3 ++ xs4))) r = some (.lst (xs1 ++ xs2 ++ xs3 ++ xs4)) := upd_same
          generalize (upd (upd H12 p4 (.lst xs4)) r (.lst (xs1 ++ xs2 ++ xs3 ++ xs4))) = H13 at sx13 x13 e13 ⊢
          have xt13 := Dx.keep sx13 _ _ xt11
          have nr13 : H13 r ≠ none := by rw [e13]; exact fun z => nomatch z
          have l13 : (xs1 ++ xs2 ++ xs3 ++ xs4).length = 14 := by rw [List.length_append, List.length_append, List.length_append, l1, l2, l3, l4]
          refine rs_bm ⟨.ref r, rfl, .inl ⟨rfl, _, sql_of e13⟩, ?_⟩
          refine put nr13 xt13 rfl rfl (ms_of (mk_c rfl) nr13) H13 _ (Same.refl _) fun v7 H14 s14 x14 => ?_
          refine ⟨r, _, _, rfl, rfl, s14 _ _ e13, smallM2 (by rw [l13]; decide), ?_⟩
          have sx15 : SameX r H13 (upd H14 r (.lst (xs1 ++ xs2 ++ xs3 ++ xs4 ++ [v7]))) := fun b o hb e => by
            rw [upd_ne hb]
            exact s14 _ _ e
          have x15 := DxAll.append (DxAll.keep sx15 _ _ x13) (.cons (Dx.keep (fun b o hb e => by rw [upd_ne hb]; exact e : SameX r H14 (upd H14 r (.lst (xs1 ++ xs2 ++ xs3 ++ xs4 ++ [v7])))) _ _ x14) .nil)
          have e15 : (upd H14 r (.lst (xs1 ++ xs2 ++ xs3 ++ xs4 ++ [v7]))) r = some (.lst (xs1 ++ xs2 ++ xs3 ++ xs4 ++ [v7])) := upd_same
          generalize (upd H14 r (.lst (xs1 ++ xs2 ++ xs3 ++ xs4 ++ [v7]))) = H15 at sx15 x15 e15 ⊢
          have xt15 := Dx.keep sx15 _ _ xt13
          have nr15 : H15 r ≠ none := by rw [e15]; exact fun z => nomatch z
          have l15 : (xs1 ++ xs2 ++ xs3 ++ xs4 ++ [v7]).length = 15 := by rw [List.length_append, l13]; rfl
          have sxall : SameX r H7 H15 := ((((sx9).trans sx11).trans sx13).trans sx15)
          have P15 : Pot H15 a (N + 2) := P7.sameX sxall (fun z => nra z.symm)
          have sa : SameX a H H15 := by
            intro b o hb e
            have hbr : b ≠ r := fun z => by rw [z] at e; rw [s1.free nr] at e; cases e
            exact sxall _ _ hbr (sx7 _ _ hb (s5 _ _ (s4 _ _ hb (s3 _ _ e))))
          have pfc : ∀ lo hi, ∀ t ∈ cutT ts lo hi, Placed t := fun lo hi t h => pf t (mem_cutT h)
          have nearP : ∀ {d : PyData}, Item d → Near (.tuple (cutP (ts.map tiD) none (some ((i : Nat) : Int)) ++ [d] ++ cutP (ts.map tiD) (some (((i : Nat) : Int) + 1)) none)) := fun it => by
            rw [cutP_ti, cutP_ti]
            have h1 := len_cutT ts none (some ((i : Nat) : Int))
            have h2 := len_cutT ts (some (((i : Nat) : Int) + 1)) none
            exact near_put (pfc _ _) (pfc _ _) it (by omega)
          have near2 : ∀ d ∈ [PyData.tuple (ts.map tiD), .list (ts.map tiD), .tuple (cutP (ts.map tiD) (some 1) none), .tuple (ts.map tiD).reverse, .tuple (ts.map tiD ++ cutP (ts.map tiD) (some (-1)) none), .tuple [], .none, .tuple (ts.map tiD ++ [.tuple [.int 0, .int (n : Int)]])] ++
              [.tuple ((srt (us ++ [(g.2, g.1)])).map tiD), .tuple ((srt (us ++ [o])).map tiD)] ++
              [.tuple (cutP (ts.map tiD) none (some ((i : Nat) : Int)) ++ [.list [.int g.1, .int g.2]] ++ cutP (ts.map tiD) (some (((i : Nat) : Int) + 1)) none), .tuple (cutP (ts.map tiD) none (some ((i : Nat) : Int)) ++ [.tuple [.int g.1, .int g.2, .int 0]] ++ cutP (ts.map tiD) (some (((i : Nat) : Int) + 1)) none)] ++
              [.tuple (cutP (ts.map tiD) none (some ((i : Nat) : Int)) ++ [.tuple [.bool false, .int g.2]] ++ cutP (ts.map tiD) (some (((i : Nat) : Int) + 1)) none), .tuple (cutP (ts.map tiD) none (some ((i : Nat) : Int)) ++ [.tuple [.str (toString g.1), .int g.2]] ++ cutP (ts.map tiD) (some (((i : Nat) : Int) + 1)) none)] ++
              [.tuple (cutP (ts.map tiD) none (some ((i : Nat) : Int)) ++ [.none] ++ cutP (ts.map tiD) (some (((i : Nat) : Int) + 1)) none)], Near d := by
            have f1 := small_pl gm.1 gm.2.1
            have f2 := small_pl gm.2.2.1 gm.2.2.2
            have f3 : Small (.int 0) := .int (n := 0) (by decide)
            intro d hd
            rcases List.mem_append.mp hd with hd | hd
            · rcases List.mem_append.mp hd with hd | hd
              · rcases List.mem_append.mp hd with hd | hd
                · rcases List.mem_append.mp hd with hd | hd
                  · exact near1 d hd
                  · rcases List.mem_cons.mp hd with rfl | hd
                    · refine near_ties (fun t h => ?_) (by rw [srt_len, List.length_append]; show us.length + 1 ≤ 300; omega)
                      rcases List.mem_append.mp ((srt_perm _).mem_iff.mp h) with h | h
                      · exact hus t h
                      · rw [List.mem_singleton.mp h]; exact ⟨gm.2.2.1, gm.2.2.2, gm.1, gm.2.1⟩
                    · rw [List.mem_singleton.mp hd]
                      refine near_ties (fun t h => ?_) (by rw [srt_len, List.length_append]; show us.length + 1 ≤ 300; omega)
                      rcases List.mem_append.mp ((srt_perm _).mem_iff.mp h) with h | h
                      · exact hus t h
                      · rw [List.mem_singleton.mp h]; exact hoP
                · rcases List.mem_cons.mp hd with rfl | hd
                  · exact nearP (item2l f1 f2)
                  · rw [List.mem_singleton.mp hd]; exact nearP (item3 f1 f2 f3)
              · rcases List.mem_cons.mp hd with rfl | hd
                · exact nearP (item2 (.bl false) f2)
                · rw [List.mem_singleton.mp hd]; exact nearP (item2 (small_txt gm.1 gm.2.1) f2)
            · rw [List.mem_singleton.mp hd]; exact nearP (.one .non)
          refine ⟨.int (n : Int), rfl, _, _, rfl, rfl, Nat.le_of_lt (smallM2 (by show 2 ≤ _; decide)), fun t nt => ?_⟩
          have s16 := same_upd (o := .tup [V.int 0, V.int ((n : Int) - 1)]) nt
          have x16 : Dx r (upd H15 t (.tup [V.int 0, V.int ((n : Int) - 1)])) (.ref t) (.tuple [.int 0, .int ((n : Int) - 1)]) := .tup upd_same (fun e => nr15 (e ▸ nt)) (.cons (.flat rfl) (.cons (.flat rfl) .nil))
          generalize (upd H15 t (.tup [V.int 0, V.int ((n : Int) - 1)])) = H16 at s16 x16 ⊢
          have e16 := s16 _ _ e15
          have x16b := DxAll.keep (.of s16) _ _ x15
          have xt16 := Dx.keep (.of s16) _ _ xt15
          have ndt : (PyData.tuple [.int 0, .int ((n : Int) - 1)]).hasDict = false := by simp [PyData.hasDict, PyData.hasDictAll]
          have ndd : PyData.hasDict (.tuple (ts.map tiD)) = false := near_nodict near0
          have P16 := P15.same s16
          have sa16 := sa.trans (.of s16)
          refine ⟨.ref tl, rfl, .tuple [.int 0, .int ((n : Int) - 1)], ts.map tiD, Dx.dp K _ _ ndt x16, Dx.dp K _ _ ndd xt16, shaped_near (.tup (by show 2 ≤ 300; decide) fun d hd => .one ?_), shaped_near near0, _, rfl, ?_⟩
          · rcases List.mem_cons.mp hd with rfl | hd
            · exact .int (n := 0) (by decide)
            · rw [List.mem_singleton.mp hd]
              exact small_pl (by omega) (by omega)
          refine ite2 (fun _ => ?_) (fun _ => ?_)
          · refine rs_bm ⟨.ref r, rfl, .inl ⟨rfl, _, sql_of e16⟩, ?_⟩
            have nr16 : H16 r ≠ none := by rw [e16]; exact fun z => nomatch z
            refine ms_sortT (a := r) (us := ts ++ [(0, (n : Int) - 1)]) ?_ nr16 (by rw [List.length_append]; show ts.length + 1 ≤ 1000; omega) H16 _ (Same.refl _) fun v8 H17 s17 x17 => ?_
            · rw [List.map_append]
              have mt : MkS r [some (.ref a), some (.int (n : Nat)), some (.ref tl), some (.ref r), some (.int (i : Nat)), some (.int g.1), some (.int g.2), some vR, some v] H16 (tTup (tCons (tTup (tCons (tC (.int 0)) (tCons (tOp (rI0 fun i j => V.int (i - j)) (tVar 1) (tC (V.int 1))) tNil))) tNil)) (.tuple ([(0, (n : Int) - 1)].map tiD)) :=
                ms_tup (msa_cons (ms_tup (ds := [.int 0, .int ((n : Int) - 1)]) (msa_cons (ms_of (mk_c rfl) nr16) (msa_cons (fun H Q _ q => ⟨.int (n : Int), rfl, _, _, rfl, rfl, q _ H (Same.refl H) (.flat rfl)⟩) msa_nil)) nr16 (by show 2 ≤ 1000; decide)) msa_nil) nr16 (by show 1 ≤ 1000; decide)
              exact ms_cat (ms_var rfl xt16) mt nr16 (by rw [List.length_map]; show ts.length + 1 ≤ 1000; omega)
            refine ⟨r, _, _, rfl, rfl, s17 _ _ e16, smallM2 (by rw [l15]; decide), ?_⟩
            have sx18 : SameX r H16 (upd H17 r (.lst (xs1 ++ xs2 ++ xs3 ++ xs4 ++ [v7] ++ [v8]))) := fun b o hb e => by
              rw [upd_ne hb]
              exact s17 _ _ e
            have x18 := DxAll.append (DxAll.keep sx18 _ _ x16b) (.cons (Dx.keep (fun b o hb e => by rw [upd_ne hb]; exact e : SameX r H17 (upd H17 r (.lst (xs1 ++ xs2 ++ xs3 ++ xs4 ++ [v7] ++ [v8])))) _ _ x17) .nil)
            refine ⟨.ref r, rfl, q r _ _ _ (fun d hd => ?_) (by simp) x18 (s1.free nr) upd_same ?_ (P16.sameX sx18 (fun z => nra z.symm))⟩
            · rcases List.mem_append.mp hd with hd | hd
              · exact near2 d hd
              · rw [List.mem_singleton.mp hd]
                refine near_ties (fun t h => ?_) (by rw [srt_len, List.length_append]; show ts.length + 1 ≤ 300; omega)
                rcases List.mem_append.mp ((srt_perm _).mem_iff.mp h) with h | h
                · exact pf t h
                · rw [List.mem_singleton.mp h]; exact ⟨by show (0 : Int) ≤ 0; decide, by show (0 : Int) ≤ 200; decide, by show (0 : Int) ≤ (n : Int) - 1; omega, by show (n : Int) - 1 ≤ 200; omega⟩
            · intro b o hb e
              have hbr : b ≠ r := fun z => by rw [z] at e; rw [s1.free nr] at e; cases e
              exact sx18 _ _ hbr (sa16 _ _ hb e)
          · exact ⟨.ref r, rfl, q r _ _ _ near2 (by simp) x16b (s1.free nr) e16 sa16 P16⟩
        · rw [List.map_append]
          exact ms_cat (ms_var rfl xR7) (ms_tup (msa_cons (ms_tup (msa_cons (ms_var rfl (.flat rfl)) (msa_cons (ms_var rfl (.flat rfl)) msa_nil)) nr7 (by show 2 ≤ 1000; decide)) msa_nil) nr7 (by show 1 ≤ 1000; decide)) nr7 (by rw [List.length_map]; show us.length + 1 ≤ 1000; omega)
        · rw [List.map_append]
          exact ms_cat (ms_var rfl xR7) (ms_tup (msa_cons (ms_var rfl xO7) msa_nil) nr7 (by show 1 ≤ 1000; decide)) nr7 (by rw [List.length_map]; show us.length + 1 ≤ 1000; omega)
    · have := len_cutT ts (some (-1)) none
      rw [cutP_ti, List.length_map, List.length_map]; omega
    · rw [List.length_map]; show ts.length + 1 ≤ 1000; omega
end
end HI

set_option Elab.async false
set_option linter.all false
set_option maxRecDepth 100000
set_option maxHeartbeats 4000000
namespace Hw
open PySem L2 PyProof.Rows
def gRev : List Value → List Value → List Value := fun us ws => match us with
  | [] => ws.reverse
  | _ :: _ => []
def gVRev : List V → List V → List V := fun us ws => match us with
  | [] => ws.reverse
  | _ :: _ => []
theorem vals_rev : ∀ {vs : List V} {us : List Value}, Vals vs us → Vals vs.reverse us.reverse
  | _, _, .nil => .nil
  | _, _, .cons r t => by
    rw [List.reverse_cons, List.reverse_cons]
    exact (vals_rev t).append (.cons r .nil)
theorem rev_rel {vs : List V} {us : List Value} {zs : List V} {ws : List Value} (r : Vals vs us) (h : Vals zs ws) : Vals (gVRev vs zs) (gRev us ws) := by
  cases r with
  | nil => exact vals_rev h
  | cons _ _ => exact .nil
theorem kb2 {K : PySem.W.Frag} {fd : FuncData} {ps ks : List Str} (hp : ps.length = 2) (h : ∀ (s : Shared) (a b : Value), BindsTo s fd ⟨[], ks.zip [a, b]⟩ (ps.zip [b, a])) : KBinds K fd ps ks gRev gVRev := by
  refine ⟨fun s us ws _ hl => ?_, rev_rel⟩
  rw [hp] at hl
  cases us with
  | cons u us => cases hl
  | nil =>
    have hl : ws.reverse.length = 2 := hl
    rw [List.length_reverse] at hl
    match ws, hl with
    | [a, b], _ => exact h s a b
end Hw
namespace HI
open PySem PySem.Spec L2 LamX PyProof PyProof.Rows Hw
abbrev sRight : Stmt := topS 36
def lamQ : Str := (envOfC "_law_right" (defScope sRight) 0 0 .none).qual ++ "<lambda>"
theorem lamQ_eq (L : Nat) (f : Addr) (cd : Value) : (envOfC "_law_right" (defScope sRight) L f cd).qual ++ "<lambda>" = lamQ := rfl
theorem passNever {P : Program} {w : World} {X : Cx} : Passes (L2N.CX P w) X (fun _ _ _ => False) := fun _ _ _ _ _ _ _ ⟨_, _, _, _, _, _, _, _, _, _, _, _, h⟩ => h.elim
def spRightT (T : List (Addr × Str)) : Sp := fun vs H Q _ => ∃ (a : Addr) (N : Nat), vs = [.ref a] ∧ Pot H a N ∧ N < 100000 ∧ Tabs T H ∧ ∀ H', ExtA a H H' → Pot H' a (N + 1000) → Tabs T H' → Q (.bl true) H'
abbrev nR : List Str := ["pot", "lap", "many", "ties", "limits", "limit", "value", "is_so", "due"]
/-- what is due of a value near a tree -/
def dueT (ls : List Int) (d : PyData) : PyData := if isTreeD ls d = true then .tuple [.none, .int (farT (tiesD d) ls.length : Nat)] else .tuple [.list [.str "tree"], d]
theorem limD_lims {ls : List Int} (L : Lims ls) : limD (.tuple (ls.map PyData.int)) = true := by
  show (decide (1 ≤ (ls.map PyData.int).length ∧ (ls.map PyData.int).length ≤ 200) && (ls.map PyData.int).all (withinD 0 200)) = true
  rw [List.length_map, decide_eq_true ⟨L.one, L.most⟩, List.all_map, Bool.true_and, List.all_eq_true]
  intro x hx
  obtain ⟨h1, h2⟩ := L.each x hx
  exact decide_eq_true ⟨h1, h2⟩
theorem far_le {n : Nat} {ts : List Tie} (n1 : 1 ≤ n) (fine : FineW (nsI n) ts) : farT ts n ≤ 2 * n := by
  have hnb := fine_nb fine
  have h0 : (0 : Int) ∈ nsI n := mem_ns (i := 0) (by omega)
  obtain ⟨a1, _, _⟩ := lastR_far hnb h0 (2 * n)
  obtain ⟨_, f⟩ := lev_ok hnb h0 (2 * n)
  have hp := f.sub _ a1
  obtain ⟨b1, b2, _⟩ := lastR_far hnb hp (2 * n)
  have l := lev_least (nbr ts) (lastR ts (2 * n) 0).2 (2 * n)
  obtain ⟨m, hm, hr⟩ := (l.mem _).mp b1
  have := (l.way _ b1).2 m hr
  show (lastR ts (2 * n) (lastR ts (2 * n) 0).2).1 ≤ 2 * n
  rw [← b2]
  exact Nat.le_trans this hm
theorem near_tree (n : Near (.str "tree")) : False := by
  cases n with
  | one h =>
    generalize hz : (PyData.str "tree") = d at h
    cases h with
    | @str n hn =>
      have a : ((List.range 201).all fun n => decide (("tree" : Str) ≠ toString (n : Int))) = true := by decide +kernel
      exact of_decide_eq_true (List.all_eq_true.mp a n (List.mem_range.mpr (by omega))) (PyData.str.inj hz)
    | _ => cases hz
theorem due_tame {ls : List Int} {a : Addr} {H : Hp} {v : V} {d : PyData} (L : Lims ls) (hl : ls.length ≤ 60) (x : Dx a H v d) (n : Near d) : Tame 20000 (dueT ls d) ∧ (dueT ls d).hasDict = false := by
  unfold dueT
  cases h : isTreeD ls d with
  | true =>
    rw [if_pos rfl]
    obtain ⟨tv, qs, ts, rfl, rfl, ev, hq, fine⟩ := isTree_ex x L h
    have := far_le L.one fine
    rw [tiesD_ti]
    have f : Near (.tuple [.none, .int (farT ts ls.length : Nat)]) := .tup (by show 2 ≤ 300; decide) fun d hd => .one (by
      rcases List.mem_cons.mp hd with rfl | hd
      · exact .non
      · rw [List.mem_singleton.mp hd]; exact .int (by omega))
    exact ⟨f.tame.1.mono (by decide), near_nodict f⟩
  | false =>
    rw [if_neg Bool.false_ne_true]
    refine ⟨tame_due (by decide +kernel) n, ?_⟩
    rw [PyData.hasDict, PyData.hasDictAll, PyData.hasDictAll, PyData.hasDictAll, near_nodict n, PyData.hasDict, PyData.hasDictAll, PyData.hasDict, PyData.hasDictAll]; rfl
theorem no_step {T : List (Addr × Str)} {D : Ends} {u A : TS} {σ : L2.St} {H : Hp} {t : TT} (ht : ∀ R : Bool → Hp → Prop, (∀ H', ExtN H H' → Tabs T H' → R false H') → t σ H R) (q : ∀ H2, ExtN H H2 → Tabs T H2 → u D σ H2) : tSeq (tIfS t A tNext) u D σ H := by
  refine rs_no ?_
  refine ht _ fun H1 s1 t1 => ?_
  show if false = true then _ else _
  rw [if_neg Bool.false_ne_true]
  exact q H1 s1 t1
theorem no_end {T : List (Addr × Str)} {D : Ends} {A : TS} {σ : L2.St} {H : Hp} {t : TT} (ht : ∀ R : Bool → Hp → Prop, (∀ H', ExtN H H' → Tabs T H' → R false H') → t σ H R) (q : ∀ H2, ExtN H H2 → Tabs T H2 → D.nx σ H2) : tIfS t A tNext D σ H := by
  refine rs_end ?_
  refine ht _ fun H1 s1 t1 => ?_
  show if false = true then _ else _
  rw [if_neg Bool.false_ne_true]
  exact q H1 s1 t1
theorem ExtN.trans {H H1 H2 : Hp} (x : ExtN H H1) (y : ExtN H1 H2) : ExtN H H2 := fun b o e n => y b o (x b o e n) n
theorem mem1q {P1 : Addr} {q x : Str} (e : x = q) : (P1, x) ∈ [(P1, q)] := by rw [e]; exact List.mem_cons_self
theorem uniq1q {P1 : Addr} {q x : Str} (e : x = q) : ∀ p ∈ [(P1, q)], p.1 = P1 → p.2 = x := fun p hp _ => by rw [List.mem_singleton.mp hp, e]
theorem rs_setP {te : TE} {i : Nat} {u : TS} {D : Ends} {σ : L2.St} {H : Hp} (P0 : V → Hp → Prop) (hw : ∀ Q : VK, (∀ v H1, P0 v H1 → Q v H1) → te σ H Q) (h : ∀ v H1, P0 v H1 → u D (σ.set i (some v)) H1) : tSeq (tAsg te (gName i)) u D σ H := rs_set (hw _ h)
theorem repr_tm {K : PySem.W.Frag} {w : Nat} {x : V} {d : PyData} {H : Hp} {Q : VK} (h : Dp K H x d) (t : Tame w d) (hw : w ≤ 2 ^ 20) (q : Q (.str d.shown) H) : rRepr K [x] H Q := ⟨x, d, rfl, .inl h, t.sh, Nat.le_trans t.dp (by decide), t.len hw, q⟩
theorem dxall_ints {a : Addr} {H : Hp} : ∀ ls : List Int, DxAll a H (ls.map V.int) (ls.map PyData.int)
  | [] => .nil
  | _ :: ls => .cons (.flat rfl) (dxall_ints ls)
theorem rs_listE {K : PySem.W.Frag} {te : TE} {g : TG} {tb : TS} {D : Ends} {σ : L2.St} {H : Hp} (P0 : Addr → List V → Hp → Prop) (Pv : Addr → List V → Hp → Nat → L2.St → Hp → Prop) (hw : ∀ Q : VK, (∀ l xs H1, P0 l xs H1 → Q (.ref l) H1) → te σ H Q) (h0 : ∀ l xs H1, P0 l xs H1 → Pv l xs H1 0 σ H1)
    (hl : ∀ l xs H1 i σ H, Pv l xs H1 i σ H → SqL K H l xs) (hs : ∀ l xs H1 i x σ H, P0 l xs H1 → xs[i]? = some x → Pv l xs H1 i σ H → g x σ H fun σ2 H2 => tb { D with nx := Pv l xs H1 (i + 1), ct := Pv l xs H1 (i + 1), bk := D.nx } σ2 H2)
    (hd : ∀ l xs H1 σ H, P0 l xs H1 → Pv l xs H1 xs.length σ H → D.nx σ H) : tFor (iList K te) g tb D σ H :=
  hw _ fun l xs H1 p => ⟨l, rfl, ⟨_, hl _ _ _ _ _ _ (h0 l xs H1 p)⟩, for_list (xs := xs) (Pv l xs H1) (h0 l xs H1 p) (fun i σ H _ q => hl _ _ _ _ _ _ q) (fun i x σ H hx q => hs l xs H1 i x σ H p hx q) (fun σ H q => hd l xs H1 σ H p q)⟩
theorem r_rpK {K : PySem.W.Frag} {x : V} {σ : L2.St} {H : Hp} {Q : VK} (h : rRepr K [x] H Q) : tNil σ H fun xs H2 => (fun vs H1 => rRepr K vs H1 Q) (x :: xs) H2 := h
section
variable {P : Program} {w : World} {K : PySem.W.Frag} {mg : Str → Option Value} {base : Heap}
theorem scRight : FnScope nR ["pot"] (defScope sRight) := ⟨rfl, rfl, rfl, by decide +kernel, rfl, by decide +kernel, by decide +kernel⟩
theorem ok_right {P1 cc CS fT fD fL fN fI fF fH fU fE : Addr} {f : Addr} {c : Nat → Addr} {fd fdT fdD fdL fdN fdI fdF fdH fdU fdE : FuncData} {k m : Nat} (F : FunC K "_law_right" "_law_right" sRight f fd cc) (TB : TabB base mg cc P1) (B : Blt mg) (br : mg "repr" = none) (bt : mg "tuple" = none)
    (GT : FnOk P w K mg base CX0 k fT fdT ["pot", "upto"] spTake) (gT : mg "_law_take" = some (.ref fT)) (kT : PySem.W.keepIn K (.ref fT) = true) (bT : Binds K fdT ["pot", "upto"] [])
    (GD : FnOk P w K mg base CX0 k fD fdD ["pot", "many"] spDrawn) (gD : mg "_law_drawn_tree" = some (.ref fD)) (kD : PySem.W.keepIn K (.ref fD) = true) (bD : Binds K fdD ["pot", "many"] [])
    (GL : FnOk P w K mg base CX0 k fL fdL ["pot", "many", "ties", "more"] spLimFor) (gL : mg "_law_limits_for" = some (.ref fL)) (kL : PySem.W.keepIn K (.ref fL) = true) (bL : Binds K fdL ["pot", "many", "ties", "more"] [])
    (GN : FnOk P w K mg base CX0 k fN fdN ["pot", "many", "ties"] spNearT) (gN : mg "_law_near_trees" = some (.ref fN)) (kN : PySem.W.keepIn K (.ref fN) = true) (bN : Binds K fdN ["pot", "many", "ties"] [])
    (GI : FnOk P w K mg base CX0 k fI fdI ["limits", "value"] spLTree) (gI : mg "_law_is_tree" = some (.ref fI)) (kI : PySem.W.keepIn K (.ref fI) = true) (bI : Binds K fdI ["limits", "value"] [])
    (GF : FnOk P w K mg base CX0 k fF fdF ["many", "ties"] spLFarthest) (gF : mg "_law_farthest" = some (.ref fF)) (kF : PySem.W.keepIn K (.ref fF) = true) (bF : Binds K fdF ["many", "ties"] [])
    (GH : FnGL P w K mg base CX0 k fH fdH ["call"] (spHeardT P w K mg base m CS c)) (gH : mg "_law_heard" = some (.ref fH)) (kH : PySem.W.keepIn K (.ref fH) = true) (bH : Binds K fdH ["call"] [])
    (GU : FnOk P w K mg base (L2N.CX P w) k fU fdU ["limits", "value"] (spIsTree (c 0))) (gU : mg "is_tree_for" = some (.ref fU)) (kU : PySem.W.keepIn K (.ref fU) = true) (bU : Binds K fdU ["limits", "value"] [])
    (GE : FnOk P w K mg base (L2N.CX P w) m fE fdE ["limits", "ties"] (spTreeFar c)) (gE : mg "tree_farthest" = some (.ref fE)) (kE : PySem.W.keepIn K (.ref fE) = true) (kbE : KBinds K fdE ["limits", "ties"] ["ties", "limits"] gRev gVRev) :
    FnG P w K mg base CX0 (k + 1) f fd ["pot"] (spRightT [(P1, lamQ)]) := by
  refine funGC F scRight (fun vs H Q E h => ?_) (fun A outer s H vs Q E hr h => ?_)
  · obtain ⟨a, N, rfl, _⟩ := h
    rfl
  · obtain ⟨a, N, rfl, hP0, hN, hT, q⟩ := h
    have hun := hr.r.un
    have h100 : (A.deeper (envOfC "_law_right" (defScope sRight) s.heap.objs.size f (.ref cc))).units + 100 < cLine := by omega
    refine ⟨_, (pss_cons (ps_for PassesOwn.never rfl (pi_range1 (by rfl) B.range (pa_cons pe_int pa_nil)) (pg_name (i := 1) scRight.nd rfl (.inl rfl))
      (pss_cons (ps_set (i := 2) scRight.nd rfl (.inl rfl) (pe_op op_add pe_int (pe_call GT hr.r (by rfl) gT kT bT .nil pass0 (pa_cons (pv 0) (pa_cons pe_int pa_nil)))))
      (pss_cons (ps_set (i := 3) scRight.nd rfl (.inl rfl) (pe_call GD hr.r (by rfl) gD kD bD .nil pass0 (pa_cons (pv 0) (pa_cons (pv 2) pa_nil))))
      (pss_cons (ps_set (i := 4) scRight.nd rfl (.inr rfl) (pe_call GL hr.r (by rfl) gL kL bL .nil pass0 (pa_cons (pv 0) (pa_cons (pv 2) (pa_cons (pv 3) (pa_cons (pe_lst (pa_cons pe_int (pa_cons pe_int (pa_cons pe_int (pa_cons pe_int (pa_cons pe_int (pa_cons pe_int (pa_cons pe_int (pa_cons (pe_un un_neg pe_int) pa_nil))))))))) pa_nil))))))
      (pss_cons (ps_set (i := 4) scRight.nd rfl (.inr rfl) (pe_callTy call_tuple_of (by rfl) bt PyProof.Rows.boot_tuple (pa_cons (pe_lc (own := [("limit", 5)]) (g := gName 5) (tt := tYes) (te := tCB _ (tCons (tC (.int 0)) (tCons (tVar 5) tNil))) rfl scRight.nd (pi_tup (pv 4)) (blkOk_by (N := nR) (sc := defScope sRight) (by decide +kernel))
        (fun _ _ _ _ _ => pg_name (i := 5) scRight.nd rfl (Or.inl rfl)) (fun _ _ _ _ _ => pts_nil) (fun _ _ _ _ _ => pe_callB (call_max2 rfl) (by rfl) B.max PyProof.Rows.boot_max (pa_cons pe_int (pa_cons (pv 5) pa_nil)))) pa_nil)))
      (pss_one (ps_for PassesOwn.never rfl (pi_list (pe_call GN hr.r (by rfl) gN kN bN .nil pass0 (pa_cons (pv 0) (pa_cons (pv 2) (pa_cons (pv 3) pa_nil))))) (pg_name (i := 6) scRight.nd rfl (.inr rfl))
        (pss_cons (ps_set (i := 7) scRight.nd rfl (.inl rfl) (pe_call GI hr.r (by rfl) gI kI bI .nil pass0 (pa_cons (pv 4) (pa_cons (pv 6) pa_nil))))
        (pss_cons (ps_if (pt_cmpR op_ne (pe_callB (call_repr hr.g h100) (by rfl) br PyProof.Rows.boot_repr (pa_cons (pe_call GU hr.r (by rfl) gU kU bU .nil passNever (pa_cons (pv 4) (pa_cons (pv 6) pa_nil))) pa_nil)) (pe_callB (call_repr hr.g h100) (by rfl) br PyProof.Rows.boot_repr (pa_cons (pv 7) pa_nil)) (nomark _)) (pss_one (ps_ret pe_bl)) pss_nil)
        (pss_cons (ps_set (i := 8) scRight.nd rfl (.inl rfl) (pe_ifExp (pt_val (pv 7)) (pe_tup (pa_cons pe_non (pa_cons (pe_callTy call_int1 (by rfl) B.int PyProof.Rows.boot_int (pa_cons (pe_call GF hr.r (by rfl) gF kF bF .nil pass0 (pa_cons (pv 2) (pa_cons (pv 6) pa_nil))) pa_nil)) pa_nil))) (pe_tup (pa_cons (pe_lst (pa_cons pe_str pa_nil)) (pa_cons (pv 6) pa_nil)))))
        (pss_one (ps_if (pt_cmpR op_ne (pe_callB (call_repr hr.g h100) (by rfl) br PyProof.Rows.boot_repr (pa_cons (pe_lamW (tb := fun E1 => tCallK0 (spTreeFar c) gVRev E1 (tCons (tVar 6) (tCons (tVar 4) tNil))) (CXl := L2N.CX P w) (j := m) (T := [(P1, lamQ)]) GH hr (by rfl) gH kH bH .nil pass0 pa_nil TB rfl (mem1q (lamQ_eq _ _ _)) (uniq1q (lamQ_eq _ _ _)) (lamS_by (sc := defScope sRight) (by decide +kernel)) rfl (fun _ _ _ _ _ => rfl)
            (fun A' outer' s' H' E' f' c' hr' => pe_callK0 GE hr' (by rfl) gE kE kbE (L2N.passes_call (L2N.takes_of rfl rfl rfl rfl) (fun _ _ _ _ h => h)) (pk_cons (pv 6) (pk_cons (pv 4) pk_nil)))) pa_nil)) (pe_callB (call_repr hr.g h100) (by rfl) br PyProof.Rows.boot_repr (pa_cons (pv 8) pa_nil)) (nomark _)) (pss_one (ps_ret pe_bl)) pss_nil))))))))))))
      (pss_one (ps_ret pe_bl))), ?_⟩
    refine rs_rng 0 8 (fun H1 => H1 = H) (fun i σ' H' => ∃ o1 o2 o3 o4 o5 o6 o7 o8, σ' = [some (.ref a), o1, o2, o3, o4, o5, o6, o7, o8] ∧ ExtA a H H' ∧ Pot H' a (N + i * 100) ∧ Tabs [(P1, lamQ)] H')
      (fun R hR => ⟨8, rfl, by decide, by decide, hR _ rfl⟩) (fun H' e => ⟨_, _, _, _, _, _, _, _, rfl, by rw [e]; exact .refl a H, by rw [e]; exact hP0.mono (by omega), by rw [e]; exact hT⟩) ?_ ?_
    · rintro i σ' H1 hi ⟨o1, o2, o3, o4, o5, o6, o7, o8, rfl, sx1, hP1, hT1⟩
      have hi' : i * 100 ≤ 700 := by omega
      refine r_gname ?_
      -- many
      refine rs_set ?_
      refine ⟨.ref a, rfl, a, 12, N + i * 100, rfl, hP1, by omega, by decide, by decide, fun g H2 g0 g1 s2 P2 => ⟨1, g, rfl, rfl, ?_⟩⟩
      obtain ⟨m, rfl⟩ := Int.eq_ofNat_of_zero_le g0
      have hm : m < 12 := by omega
      have en : (fun (i j : Int) => V.int (i + j)) 1 (m : Int) = V.int ((m + 1 : Nat) : Int) := congrArg V.int (by omega)
      rw [en]
      generalize hn : m + 1 = n
      have n1 : 1 ≤ n := by omega
      have n2 : n ≤ 12 := by omega
      clear hn en
      have hT2 := tabs_sx hT1 hP1 s2
      -- ties
      refine rs_set ?_
      refine ⟨.ref a, rfl, .int (n : Nat), rfl, a, n, N + i * 100 + 1, rfl, P2, by omega, n1, by omega, fun t ts qs H3 dr nt et hq s3 P3 => ?_⟩
      obtain ⟨fine, hlt⟩ := drawn_fine n1 (by omega) dr
      have hT3 := tabs_sx hT2 P2 s3
      have nta : t ≠ a := fun z => P2.some (z ▸ nt)
      -- limits
      refine rs_set ?_
      refine ⟨.ref a, rfl, .int (n : Nat), rfl, .ref t, rfl, ?_⟩
      refine r_cons (lst_rawS (a := a) (ds := [.int 0, .int 0, .int 1, .int 2, .int 5, .int 0, .int 0, .int (-1)]) (fun l xs1 H4 s4 x4 nl => ?_) (msa_cons (ms_of (mk_c rfl) P3.some) (msa_cons (ms_of (mk_c rfl) P3.some) (msa_cons (ms_of (mk_c rfl) P3.some) (msa_cons (ms_of (mk_c rfl) P3.some) (msa_cons (ms_of (mk_c rfl) P3.some) (msa_cons (ms_of (mk_c rfl) P3.some) (msa_cons (ms_of (mk_c rfl) P3.some) (msa_cons (ms_of mk_neg P3.some) msa_nil)))))))) (by decide))
      obtain ⟨ms0, e1, e2, _⟩ := within_ints (lo := -1) (hi := 5) x4 (by decide +kernel)
      have ems : ms0 = [0, 0, 1, 2, 5, 0, 0, -1] := (List.map_inj_right (f := PyData.int) fun x y h => by cases h; rfl).mp (e1.symm.trans rfl)
      subst ems
      subst e2
      have s5 := same_upd (o := .lst ([0, 0, 1, 2, 5, 0, 0, -1].map V.int)) nl
      have s45 := s4.trans s5
      have P5 := P3.same s45
      have el5 : (upd H4 l (.lst ([0, 0, 1, 2, 5, 0, 0, -1].map V.int))) l = some (.lst ([0, 0, 1, 2, 5, 0, 0, -1].map V.int)) := upd_same
      have nal : a ≠ l := fun z => by have := P3.same s4; exact this.some (z ▸ nl)
      generalize (upd H4 l (.lst ([0, 0, 1, 2, 5, 0, 0, -1].map V.int))) = H5 at s5 s45 P5 el5 ⊢
      refine ⟨a, t, l, n, N + i * 100 + 1 + 2 * n, ts, qs, [0, 0, 1, 2, 5, 0, 0, -1], rfl, P5, by omega, by omega, fine, s45 _ _ et, paired_mono (fun q t e => s45 _ _ e) hq, el5, nal, by decide, by decide, fun tl ls H6 hls hlim ntl etl s6 P6 => ?_⟩
      have et6 := s6 _ _ nta (s45 _ _ et)
      have hq6 : Paired (TieL H6) qs ts := paired_mono (fun q t e => s6 _ _ (fun z => by
        have e : H3 q = _ := e
        obtain ⟨_, _, _, ea, _⟩ := P3.ex
        rw [z, ea] at e; cases e) (s45 _ _ e)) hq
      have hT6 := tabs_sx (tabs_same hT3 s45) P5 s6
      have sx6 : ExtA a H H6 := (sx1.trans (.ofX s2)).trans ((ExtA.ofX s3).trans ((ExtA.ofS s45).trans (.ofX s6)))
      -- limits again
      refine rs_set ?_
      refine ⟨.ref tl, rfl, tl, rfl, ⟨_, sqt_of etl⟩, fun D nD => ?_⟩
      refine lc_tup (K := K) (xs := ls.map V.int) (fun j H' => Same H6 H' ∧ H' D = some (.lst (((ls.take j).map fun x => if x > 0 then x else 0).map V.int))) ⟨same_upd nD, upd_same⟩ (fun j H' _ h => sqt_of (h.1 _ _ etl)) ?_ ?_
      · rintro j x H' hx ⟨s7, eD⟩
        obtain ⟨y, hy, rfl⟩ := map_get hx
        have hjl := (List.getElem?_eq_some_iff.mp hy).1
        refine ⟨rfl, r_yes ?_⟩
        refine ⟨.int y, rfl, 0, y, rfl, _, eD, smallM2 (by rw [List.length_map, List.length_map, List.length_take]; omega), fun b o e => by rw [upd_ne (ne_of_none e nD)]; exact s7 _ _ e, ?_⟩
        rw [upd_same, take_snoc hy, List.map_append, List.map_append]; rfl
      rintro H7 ⟨s7, eD⟩
      rw [List.length_map, List.take_length] at eD
      refine ⟨D, _, rfl, .inl ⟨sql_of eD, fun tl2 ntl2 => ?_⟩⟩
      have L : Lims (ls.map fun x => if x > 0 then x else 0) := by
        refine ⟨by rw [List.length_map]; omega, by rw [List.length_map]; omega, fun x hx => ?_⟩
        obtain ⟨y, hy, rfl⟩ := List.mem_map.mp hx
        obtain ⟨j, hj, rfl⟩ := List.mem_iff_getElem.mp hy
        obtain ⟨m', hm', e⟩ := hlim j (by omega)
        have e3 : ls.getD j 0 = ls[j] := by simp [List.getD, List.getElem?_eq_getElem hj]
        have := nbr_len ts ((j : Nat) : Int)
        have h5 : m' ≤ 5 := by
          simp only [List.mem_cons, List.not_mem_nil, or_false] at hm'
          omega
        show 0 ≤ (if ls[j] > 0 then ls[j] else 0) ∧ (if ls[j] > 0 then ls[j] else 0) ≤ 200
        split <;> omega
      have hll : (ls.map fun x => if x > 0 then x else 0).length = n := by rw [List.length_map, hls]
      generalize (ls.map fun x => if x > 0 then x else 0) = ls2 at L hll eD ⊢
      have s8 := s7.trans (same_upd (o := .tup (ls2.map V.int)) ntl2)
      have etl2 : (upd H7 tl2 (.tup (ls2.map V.int))) tl2 = some (.tup (ls2.map V.int)) := upd_same
      generalize (upd H7 tl2 (.tup (ls2.map V.int))) = H8 at s8 etl2 ⊢
      have P8 := P6.same s8
      have hT8 := tabs_same hT6 s8
      have sx8 := sx6.trans (.ofS s8)
      clear eD ntl2 nD s7
      -- values near
      refine rs_listE (fun r xs H' => ∃ ds : List PyData, (∀ d ∈ ds, Near d) ∧ xs.length = ds.length ∧ DxAll r H' xs ds ∧ H' r = some (.lst xs) ∧ ExtA a H H' ∧ Pot H' a (N + (i + 1) * 100) ∧ Tabs [(P1, lamQ)] H' ∧ H' tl2 = some (.tup (ls2.map V.int)))
        (fun r xs Hr k σ2 H' => ∃ o5 o6 o7 o8, σ2 = [some (.ref a), some (.int (0 + (i : Int))), some (.int (n : Nat)), some (.ref t), some (.ref tl2), o5, o6, o7, o8] ∧ ExtN Hr H' ∧ Tabs [(P1, lamQ)] H' ∧ H' r = some (.lst xs)) (fun Q hQ => ?_) ?_ (fun r xs Hr k σ2 H' h => by obtain ⟨_, _, _, _, _, _, _, e⟩ := h; exact sql_of e) ?_ ?_
      · refine ⟨.ref a, rfl, .int (n : Nat), rfl, .ref t, rfl, a, t, n, N + i * 100 + 1 + 2 * n + n, ts, qs, rfl, P8, by omega, n1, by omega, fine, by omega, s8 _ _ et6, paired_mono (fun q t e => s8 _ _ e) hq6, fun r xs ds H9 near hds xd nr er s9 P9 => ?_⟩
        exact hQ r xs H9 ⟨ds, near, xd.length, xd, er, sx8.trans (.ofX s9), P9.mono (by omega), tabs_sx hT8 P8 s9, s9 _ _ (fun z => by obtain ⟨_, _, _, ea, _⟩ := P8.ex; rw [z, ea] at etl2; cases etl2) etl2⟩
      · rintro r xs Hr ⟨ds, _, _, _, er, _, _, hTr, _⟩
        exact ⟨_, _, _, _, rfl, fun b o e _ => e, hTr, er⟩
      · rintro r xs Hr k v σ2 H9 ⟨ds, near, _, xdr, er0, _, _, _, etr⟩ hv ⟨o5, o6, o7, o8, rfl, sN, hT9, er⟩
        obtain ⟨d, hd, xd0⟩ := DxAll.at xdr hv
        have nd := near d hd
        have xd := Dx.ext (.ofN sN) _ _ xd0
        have etl9 := sN _ _ etr (fun _ z => nomatch z)
        clear xd0 hv
        refine r_gname ?_
        -- is so
        refine rs_set ?_
        refine ⟨.ref tl2, rfl, v, rfl, tl2, v, r, ls2, d, rfl, etl9, L, xd, fun H10 s10 => ?_⟩
        have hT10 := tabs_same hT9 s10
        have xd10 := Dx.keep (.of s10) _ _ xd
        have etl10 := s10 _ _ etl9
        have sN10 := ExtN.trans sN (ExtN.ofS s10)
        have ntr : tl2 ≠ r := fun z => by rw [z, er] at etl9; cases etl9
        clear xd hT9 sN
        -- is_tree_for
        refine no_step (T := [(P1, lamQ)]) (fun R hR => ?_) (fun H11 s11 hT11 => ?_)
        · refine ⟨.ref tl2, rfl, v, rfl, .ref tl2, v, r, .tuple (ls2.map PyData.int), d, rfl, .tup etl10 ntr (dxall_ints ls2), xd10, fun _ H11 s11 => ?_, fun z => ?_⟩
          · refine r_rpK (repr_tm (w := 8) (.bl _) (tame_bool _) (by decide) ?_)
            refine ⟨.bl (isTreeD ls2 d), rfl, r_rpK (repr_tm (w := 8) (.bl _) (tame_bool _) (by decide) ⟨rfl, _, rfl, ?_⟩)⟩
            rw [limsOf_ints, decide_eq_true rfl]
            exact hR H11 (ExtN.ofS s11) (tabs_same hT10 s11)
          · rw [limD_lims L] at z; cases z
        have sN11 := ExtN.trans sN10 s11
        have xd11 := Dx.ext (.ofN s11) _ _ xd10
        have etl11 := s11 _ _ etl10 (fun _ z => nomatch z)
        have er11 := sN11 _ _ er0 (fun _ z => nomatch z)
        clear xd10 hT10 sN10
        -- due
        refine rs_setP (fun y H12 => Same H11 H12 ∧ Dx r H12 y (dueT ls2 d)) (fun Q hQ => ?_) (fun y H12 h12 => ?_)
        · refine ⟨.bl (isTreeD ls2 d), rfl, _, rfl, ?_⟩
          cases hb : isTreeD ls2 d with
          | true =>
            show if true = true then _ else _
            rw [if_pos rfl]
            obtain ⟨tv, qs2, us, rfl, rfl, ev, hq2, fine2⟩ := isTree_ex xd11 L hb
            have hb2 := hb
            rw [isTreeD_tup, Bool.and_eq_true, Bool.and_eq_true, Bool.and_eq_true, tiesOf_ti] at hb2
            obtain ⟨c1, _, _, c2⟩ := hb2
            unfold treeT at c2
            rw [Bool.and_eq_true] at c2
            have c1 := of_decide_eq_true c1
            have c2 := of_decide_eq_true c2.1
            rw [List.length_map] at c1
            rw [hll] at c1 c2 fine2
            obtain ⟨rr, TW⟩ := tree_of n1 fine2 c1 c2
            refine ⟨.int (n : Nat), rfl, .ref tv, rfl, tv, n, us, qs2, rr, rfl, n1, by omega, fine2, TW, ev, hq2, fun H12 s12 => .inl ⟨_, rfl, by show 2 ≤ sizeLine; decide, fun tp ntp => ?_⟩⟩
            have s13 := s12.trans (same_upd (o := .tup [.non, .int (farT us n : Nat)]) ntp)
            refine hQ _ _ ⟨s13, ?_⟩
            unfold dueT
            rw [if_pos hb, tiesD_ti, hll]
            exact .tup upd_same (fun e => by have := s12 _ _ er11; rw [← e, ntp] at this; cases this) (.cons (.flat rfl) (.cons (.flat rfl) .nil))
          | false =>
            show if false = true then _ else _
            rw [if_neg Bool.false_ne_true]
            refine ⟨by show 1 ≤ sizeLine; decide, fun p np => ⟨v, rfl, by show 2 ≤ sizeLine; decide, fun tp ntp => ?_⟩⟩
            have s12 := same_upd (o := .lst [.str "tree"]) np
            have s13 := same_upd (o := .tup [.ref p, v]) ntp
            refine hQ _ _ ⟨s12.trans s13, ?_⟩
            unfold dueT
            rw [if_neg (by rw [hb]; exact Bool.false_ne_true)]
            exact .tup upd_same (fun e => by have := s12 _ _ er11; rw [← e, ntp] at this; cases this) (.cons (.lst (s13 _ _ upd_same) (fun e => by rw [← e, np] at er11; cases er11) (.cons (.flat rfl) .nil)) (.cons (Dx.keep (.of (s12.trans s13)) _ _ xd11) .nil))
        obtain ⟨s12, xy⟩ := h12
        have hT12 := tabs_same hT11 s12
        have xd12 := Dx.keep (.of s12) _ _ xd11
        have etl12 := s12 _ _ etl11
        have er12 := s12 _ _ er11
        have sN12 := ExtN.trans sN11 (ExtN.ofS s12)
        clear xd11 hT11 sN11
        -- heard
        obtain ⟨tame, nodict⟩ := due_tame L (by omega) xd12 nd
        refine no_end (T := [(P1, lamQ)]) (fun R hR => ?_) (fun H13 s13 hT13 => ⟨_, _, _, _, rfl, ExtN.trans sN12 s13, hT13, s13 _ _ er12 (fun _ z => nomatch z)⟩)
        have fin : ∀ x H14, ExtN H12 H14 → Tabs [(P1, lamQ)] H14 → Dx r H14 x (dueT ls2 d) → rRepr K [x] H14 (fun x H1 => tCB (rRepr K) (tCons (tVar 8) tNil) [some (.ref a), some (.int (0 + (i : Int))), some (.int (n : Nat)), some (.ref t), some (.ref tl2), o5, some v, some (.bl (isTreeD ls2 d)), some y] H1 fun y H2 => rNe x y H2 fun x H' => ∃ k, x = V.bl k ∧ R k H') := fun x H14 s14 hT14 hx => by
          refine repr_tm (Dx.dp K _ _ nodict hx) tame (by decide) ?_
          refine ⟨y, rfl, r_rpK (repr_tm (Dx.dp K _ _ nodict (Dx.ext (.ofN s14) _ _ xy)) tame (by decide) ⟨rfl, _, rfl, ?_⟩)⟩
          rw [decide_eq_true rfl]
          exact hR H14 s14 hT14
        refine ⟨hT12, fun f1 c1 H14 s14 hT14 hc1 => fun fs1 h1 ac1 => ⟨f1, _, _, rfl, ac1, hc1, ?_⟩⟩
        have xd14 := Dx.ext (.ofN s14) _ _ xd12
        have etl14 := s14 _ _ etl12 (fun _ z => nomatch z)
        have er14 := s14 _ _ er12 (fun _ z => nomatch z)
        refine ⟨v, rfl, .ref tl2, rfl, .ref tl2, v, r, .tuple (ls2.map PyData.int), d, rfl, .tup etl14 ntr (dxall_ints ls2), xd14, fun z => ?_, fun _ hb => ?_, fun _ hb H15 s15 => ?_⟩
        · rw [limD_lims L] at z; cases z
        · rw [limsOf_ints] at hb
          refine fun dd H15 s15 ndd => ⟨1, dd, v, by decide, rfl, rfl, upd_same, fun H16 tp l2 s16 e1 e2 nl2 => ?_⟩
          have sx := (s15.trans (same_upd (o := .xd [("value", v)]) ndd)).trans s16
          refine fin _ H16 (ExtN.trans s14 (ExtN.ofS sx)) (tabs_same hT14 sx) ?_
          unfold dueT
          rw [if_neg (by rw [hb]; exact Bool.false_ne_true)]
          have er16 := sx _ _ er14
          have e2 : H16 l2 = some (.lst [.str "tree"]) := e2
          have nl2r : l2 ≠ r := fun z => by
            rw [z, er16] at e2
            cases e2
            cases xdr with
            | cons x1 _ =>
              cases x1 with
              | flat e =>
                cases e
                exact near_tree (near _ List.mem_cons_self)
          exact .tup e1 (fun e => by rw [e, er16] at e1; cases e1) (.cons (.lst e2 nl2r (.cons (.flat rfl) .nil)) (.cons (Dx.keep (.of sx) _ _ xd14) .nil))
        · rw [limsOf_ints] at hb ⊢
          intro H16 tp s16 e1
          have sx := s15.trans s16
          refine fin _ H16 (ExtN.trans s14 (ExtN.ofS sx)) (tabs_same hT14 sx) ?_
          unfold dueT
          rw [if_pos hb]
          have er16 := sx _ _ er14
          exact .tup e1 (fun e => by rw [e, er16] at e1; cases e1) (.cons (.flat rfl) (.cons (.flat rfl) .nil))
      · rintro r xs Hr σ2 H9 ⟨ds, _, _, _, er, sxr, Pr, _, _⟩ ⟨o5, o6, o7, o8, rfl, sN, hT9, _⟩
        exact ⟨_, _, _, _, _, _, _, _, rfl, sxr.trans (.ofN sN), Pr.ext sN, hT9⟩
    · rintro σ' H8 ⟨o1, o2, o3, o4, o5, o6, o7, o8, rfl, sx8, hP8, hT8⟩
      exact q H8 sx8 (hP8.mono (by omega)) hT8
end
end HI

set_option Elab.async false
set_option linter.all false
set_option maxRecDepth 100000
set_option maxHeartbeats 4000000
namespace HI
open PySem L2 LamX PyProof.Rows Hw
abbrev sLaw : Stmt := topS 37
def spLawT (K : PySem.W.Frag) (T : List (Addr × Str)) : Sp := fun vs H Q _ => ∃ (a : Addr) (ns : List Int), vs = [.ref a] ∧ SqL K H a (ns.map V.int) ∧ ns.length ≤ 63 ∧ Tabs T H ∧ ∀ H', Q (.bl true) H'
section
variable {P : Program} {w : World} {K : PySem.W.Frag} {mg : Str → Option Value} {base : Heap}
theorem scLaw : FnScope ["script", "place"] ["script"] (defScope sLaw) := ⟨rfl, rfl, rfl, by decide +kernel, rfl, by decide +kernel, by decide +kernel⟩
theorem ok_law {T : List (Addr × Str)} {f fP fC fR : Addr} {fd fdP fdC fdR : FuncData} {k : Nat} (F : L2.Fun K "law" "law" sLaw f fd) (ba : mg "all" = none)
    (GP : FnOk P w K mg base CX0 k fP fdP ["script", "place"] (spPot K)) (gP : mg "_law_pot" = some (.ref fP)) (kP : PySem.W.keepIn K (.ref fP) = true) (bP : Binds K fdP ["script", "place"] [])
    (GC : FnOk P w K mg base CX0 k fC fdC ["script", "most"] (spCells K)) (gC : mg "_law_cells" = some (.ref fC)) (kC : PySem.W.keepIn K (.ref fC) = true) (bC : Binds K fdC ["script", "most"] [])
    (GR : FnG P w K mg base CX0 k fR fdR ["pot"] (spRightT T)) (gR : mg "_law_right" = some (.ref fR)) (kR : PySem.W.keepIn K (.ref fR) = true) (bR : Binds K fdR ["pot"] []) :
    FnG P w K mg base CX0 (k + 1) f fd ["script"] (spLawT K T) := by
  refine funG F scLaw (fun vs H Q E h => ?_) (fun cdv A outer s H vs Q E hg h => ?_)
  · obtain ⟨a, ns, rfl, _⟩ := h
    rfl
  · obtain ⟨a, ns, rfl, hS, hl, hT, q⟩ := h
    have hr := hg.r
    refine ⟨_, pss_one (ps_ret (pe_callB (cr_all rfl) (by rfl) ba PyProof.Rows.boot_all (pa_cons (pe_lc (own := [("place", 1)]) (g := gName 1) (tt := tYes) rfl scLaw.nd
      (pi_list (pe_call GC hr (by rfl) gC kC bC .nil pass0 (pa_cons (pv 0) (pa_cons pe_int pa_nil)))) (blkOk_by (N := ["script", "place"]) (sc := defScope sLaw) (by decide +kernel))
      (fun _ _ _ _ _ => pg_name (i := 1) scLaw.nd rfl (Or.inl rfl)) (fun _ _ _ _ _ => pts_nil)
      (fun _ _ _ _ _ => pe_callG GR hg (by rfl) gR kR bR .nil pass0 (pa_cons (pe_call GP hr (by rfl) gP kP bP .nil pass0 (pa_cons (pv 0) (pa_cons (pv 1) pa_nil))) pa_nil))) pa_nil))), ?_⟩
    refine r_ret ?_
    refine ⟨.ref a, rfl, a, ns.map V.int, 3, rfl, hS, by rw [List.length_map]; exact hl, by decide, by decide, fun n p H1 n0 n3 s1 np hp => ?_⟩
    refine ⟨p, rfl, ⟨_, sql_of hp⟩, fun D hD => ?_⟩
    have lenr : ((List.range n).map fun i : Nat => V.int (i : Int)).length = n := by rw [List.length_map, List.length_range]
    refine lc_list (xs := (List.range n).map fun i : Nat => V.int (i : Int)) (fun i H' => ExtN H1 H' ∧ Tabs T H' ∧ H' D = some (.lst (List.replicate i (.bl true)))) ⟨ExtN.ofS (same_upd hD), tabs_same (tabs_same hT s1) (same_upd hD), upd_same⟩ (fun i H' _ h => sql_of (ExtN.lst h.1 hp)) ?_ ?_
    · rintro i x H2 hx ⟨s2, hT2, eD⟩
      rw [List.getElem?_map] at hx
      have hi : i < n := by
        cases e : (List.range n)[i]? with
        | none => rw [e] at hx; cases hx
        | some y =>
          have z := (List.getElem?_eq_some_iff.mp e).1
          rwa [List.length_range] at z
      rw [List.getElem?_range hi] at hx
      obtain rfl : V.int (i : Int) = x := Option.some.inj hx
      refine ⟨rfl, ?_⟩
      refine r_yes ?_
      have hS2 : SqL K H2 a (ns.map V.int) := ExtN.seq s2 (s1.seq hS)
      refine r_call (r_cons (r_call (r_cons (r_var (v := .ref a) rfl (r_cons (r_var (v := .int (i : Int)) rfl ⟨a, ns, i, rfl, hS2, hl, by omega, by omega, fun pp H3 s3 np3 hp3 => ?_⟩))))))
      refine ⟨pp, 0, rfl, hp3, by decide, tabs_same hT2 s3, fun H4 s4 _ hT4 => ?_⟩
      have e4 : H4 D = some (.lst (List.replicate i (.bl true))) := s4.lst (ne_of_none eD np3) (s3 _ _ eD)
      refine ⟨_, e4, small1000 (by rw [List.length_replicate]; omega), fun b o e n => ?_, tabs_put hT4 e4, ?_⟩
      · have nb : b ≠ D := ne_of_none e hD
        rw [upd_ne nb]
        have e2 := s2 _ _ e n
        exact s4 _ _ (ne_of_none e2 np3) n (s3 _ _ e2)
      · rw [upd_same, ← List.replicate_succ']
    · rintro H2 ⟨s2, hT2, eD⟩
      rw [lenr] at eD
      refine ⟨D, List.replicate n true, rfl, sql_of (by rw [eD, List.map_replicate]), ?_⟩
      have e : (List.replicate n true).all id = true := by simp
      rw [e]
      exact q H2
end
end HI

set_option Elab.async false
set_option linter.all false
set_option maxRecDepth 100000
set_option maxHeartbeats 4000000
namespace Hw
open PySem L2 PyProof.Rows
theorem sub_bt {K : PySem.W.Frag} {T : String} {C : Addr} {l : List Value} (h : fastBuiltinMro T = some l) (hl : l.contains (.ref C) = false) : PySem.W.subIn K (.type T) (.ref C) = some false := by
  show (fastBuiltinMro T).map (·.contains (.ref C)) = some false
  rw [h]
  show some (l.contains (.ref C)) = some false
  rw [hl]
theorem kit_no {K : PySem.W.Frag} {T : String} {C : Addr} (hd : PySem.W.hasDictIn K C = true) (hy : PySem.W.typeIn K (.ref C) = some (.type "type")) (hs : PySem.W.subIn K (.type T) (.ref C) = some false) : PySem.W.kitOne K (.type T) (.ref C) = some false := by
  have hc : (PySem.W.clsIn K C).isSome = true := by
    obtain ⟨cd, hc, _⟩ := PySem.W.any_some hd
    rw [hc]; rfl
  unfold PySem.W.kitOne
  rw [if_neg (by simp)]
  show (if ((PySem.W.clsIn K C).isSome && PySem.W.typeIn K (.ref C) == some (.type "type")) = true then PySem.W.subIn K (.type T) (.ref C) else none) = some false
  rw [if_pos (by rw [hc, hy]; simp), hs]

theorem all_mk {l : PySem.W.OpenLaw} {w : World} {K : PySem.W.Frag} {h : Heap} {mg : Str → Option Value} {fa  f0 f1 f2 f3 f4 f5 f6 f7 f8 f9 f10 f11 f12 f13 f14 f15 f16 f17 f18 f19 f20 f21 f22 f23 f24 f25 f26 f27 : Addr} {CS fI E0 E1 cc26 P26 : Addr} (X : K.In h) (G : h.Ns mainGlobals mg) (hfa : mg "law" = some (.ref fa))
    {odI anI : Option Addr} {slI : Array (Option Value)} {ocI kVI dcI pmI cdI ctI : Value}
    {od0 an0 od1 an1 od2 an2 od3 an3 od4 an4 od5 an5 od6 an6 od7 an7 od8 an8 od9 an9 od10 an10 od11 an11 od12 an12 od13 an13 od14 an14 od15 an15 od16 an16 od17 an17 od18 an18 od19 an19 od20 an20 od21 an21 od22 an22 od23 an23 od24 an24 od25 an25 od26 an26 od27 an27 : Option Addr} {sl0 sl1 sl2 sl3 sl4 sl5 sl6 sl7 sl8 sl9 sl10 sl11 sl12 sl13 sl14 sl15 sl16 sl17 sl18 sl19 sl20 sl21 sl22 sl23 sl24 sl25 sl26 sl27 : Array (Option Value)} {oc0 kV0 dc0 pm0 cd0 ct0 oc1 kV1 dc1 pm1 cd1 ct1 oc2 kV2 dc2 pm2 cd2 ct2 oc3 kV3 dc3 pm3 cd3 ct3 oc4 kV4 dc4 pm4 cd4 ct4 oc5 kV5 dc5 pm5 cd5 ct5 oc6 kV6 dc6 pm6 cd6 ct6 oc7 kV7 dc7 pm7 cd7 ct7 oc8 kV8 dc8 pm8 cd8 ct8 oc9 kV9 dc9 pm9 cd9 ct9 oc10 kV10 dc10 pm10 cd10 ct10 oc11 kV11 dc11 pm11 cd11 ct11 oc12 kV12 dc12 pm12 cd12 ct12 oc13 kV13 dc13 pm13 cd13 ct13 oc14 kV14 dc14 pm14 cd14 ct14 oc15 kV15 dc15 pm15 cd15 ct15 oc16 kV16 dc16 pm16 cd16 ct16 oc17 kV17 dc17 pm17 cd17 ct17 oc18 kV18 dc18 pm18 cd18 ct18 oc19 kV19 dc19 pm19 cd19 ct19 oc20 kV20 dc20 pm20 cd20 ct20 oc21 kV21 dc21 pm21 cd21 ct21 oc22 kV22 dc22 pm22 cd22 ct22 oc23 kV23 dc23 pm23 cd23 ct23 oc24 kV24 dc24 pm24 cd24 ct24 oc25 kV25 dc25 pm25 cd25 ct25 oc26 kV26 dc26 pm26 ct26 oc27 kV27 dc27 pm27 cd27 ct27 : Value} {tk0 tk1 : Tok}
    (a0 : PySem.W.nsIn K mainGlobals "is_within" = some (some (.ref f0)))
    (l0 : K.lookup f0 = some ⟨oc0, od0, .func (PySem.W.fnOf "is_within" "is_within" (defArgs HI.sWithin) (defBody HI.sWithin) (defScope HI.sWithin) .none kV0 dc0 pm0 an0 cd0 ct0), sl0⟩)
    (c0 : PySem.W.codeIn K cd0 "is_within" = true)
    (k0 : PySem.W.keepIn K (.ref f0) = true)
    (a1 : PySem.W.nsIn K mainGlobals "ascends" = some (some (.ref f1)))
    (l1 : K.lookup f1 = some ⟨oc1, od1, .func (PySem.W.fnOf "ascends" "ascends" (defArgs HI.sAsc) (defBody HI.sAsc) (defScope HI.sAsc) .none kV1 dc1 pm1 an1 cd1 ct1), sl1⟩)
    (c1 : PySem.W.codeIn K cd1 "ascends" = true)
    (k1 : PySem.W.keepIn K (.ref f1) = true)
    (a2 : PySem.W.nsIn K mainGlobals "tied_by" = some (some (.ref f2)))
    (l2 : K.lookup f2 = some ⟨oc2, od2, .func (PySem.W.fnOf "tied_by" "tied_by" (defArgs sTied) (defBody sTied) (defScope sTied) .none kV2 dc2 pm2 an2 cd2 ct2), sl2⟩)
    (c2 : PySem.W.codeIn K cd2 "tied_by" = true)
    (k2 : PySem.W.keepIn K (.ref f2) = true)
    (a3 : PySem.W.nsIn K mainGlobals "far_along" = some (some (.ref f3)))
    (l3 : K.lookup f3 = some ⟨oc3, od3, .func (PySem.W.fnOf "far_along" "far_along" (defArgs HI.sAlong) (defBody HI.sAlong) (defScope HI.sAlong) .none kV3 dc3 pm3 an3 cd3 ct3), sl3⟩)
    (c3 : PySem.W.codeIn K cd3 "far_along" = true)
    (k3 : PySem.W.keepIn K (.ref f3) = true)
    (a4 : PySem.W.nsIn K mainGlobals "check_limits" = some (some (.ref f4)))
    (l4 : K.lookup f4 = some ⟨oc4, od4, .func (PySem.W.fnOf "check_limits" "check_limits" (defArgs HI.sChkL) (defBody HI.sChkL) (defScope HI.sChkL) .none kV4 dc4 pm4 an4 cd4 ct4), sl4⟩)
    (c4 : PySem.W.codeIn K cd4 "check_limits" = true)
    (k4 : PySem.W.keepIn K (.ref f4) = true)
    (a5 : PySem.W.nsIn K mainGlobals "is_tree_for" = some (some (.ref f5)))
    (l5 : K.lookup f5 = some ⟨oc5, od5, .func (PySem.W.fnOf "is_tree_for" "is_tree_for" (defArgs HI.sTreeFor) (defBody HI.sTreeFor) (defScope HI.sTreeFor) .none kV5 dc5 pm5 an5 cd5 ct5), sl5⟩)
    (c5 : PySem.W.codeIn K cd5 "is_tree_for" = true)
    (k5 : PySem.W.keepIn K (.ref f5) = true)
    (a6 : PySem.W.nsIn K mainGlobals "is_tie_of" = some (some (.ref f6)))
    (l6 : K.lookup f6 = some ⟨oc6, od6, .func (PySem.W.fnOf "is_tie_of" "is_tie_of" (defArgs HI.sIsTieOf) (defBody HI.sIsTieOf) (defScope HI.sIsTieOf) .none kV6 dc6 pm6 an6 cd6 ct6), sl6⟩)
    (c6 : PySem.W.codeIn K cd6 "is_tie_of" = true)
    (k6 : PySem.W.keepIn K (.ref f6) = true)
    (a7 : PySem.W.nsIn K mainGlobals "tree_farthest" = some (some (.ref f7)))
    (l7 : K.lookup f7 = some ⟨oc7, od7, .func (PySem.W.fnOf "tree_farthest" "tree_farthest" (defArgs HI.sTreeFar) (defBody HI.sTreeFar) (defScope HI.sTreeFar) .none kV7 dc7 pm7 an7 cd7 ct7), sl7⟩)
    (c7 : PySem.W.codeIn K cd7 "tree_farthest" = true)
    (k7 : PySem.W.keepIn K (.ref f7) = true)
    (a8 : PySem.W.nsIn K mainGlobals "way_through" = some (some (.ref f8)))
    (l8 : K.lookup f8 = some ⟨oc8, od8, .func (PySem.W.fnOf "way_through" "way_through" (defArgs HI.sWay) (defBody HI.sWay) (defScope HI.sWay) .none kV8 dc8 pm8 an8 cd8 ct8), sl8⟩)
    (c8 : PySem.W.codeIn K cd8 "way_through" = true)
    (k8 : PySem.W.keepIn K (.ref f8) = true)
    (a9 : PySem.W.nsIn K mainGlobals "last_reached" = some (some (.ref f9)))
    (l9 : K.lookup f9 = some ⟨oc9, od9, .func (PySem.W.fnOf "last_reached" "last_reached" (defArgs HI.sLast) (defBody HI.sLast) (defScope HI.sLast) .none kV9 dc9 pm9 an9 cd9 ct9), sl9⟩)
    (c9 : PySem.W.codeIn K cd9 "last_reached" = true)
    (k9 : PySem.W.keepIn K (.ref f9) = true)
    (a10 : PySem.W.nsIn K mainGlobals "_law_pot" = some (some (.ref f10)))
    (l10 : K.lookup f10 = some ⟨oc10, od10, .func (PySem.W.fnOf "_law_pot" "_law_pot" (defArgs sPot) (defBody sPot) (defScope sPot) .none kV10 dc10 pm10 an10 cd10 ct10), sl10⟩)
    (c10 : PySem.W.codeIn K cd10 "_law_pot" = true)
    (k10 : PySem.W.keepIn K (.ref f10) = true)
    (a11 : PySem.W.nsIn K mainGlobals "_law_take" = some (some (.ref f11)))
    (l11 : K.lookup f11 = some ⟨oc11, od11, .func (PySem.W.fnOf "_law_take" "_law_take" (defArgs sTake) (defBody sTake) (defScope sTake) .none kV11 dc11 pm11 an11 cd11 ct11), sl11⟩)
    (c11 : PySem.W.codeIn K cd11 "_law_take" = true)
    (k11 : PySem.W.keepIn K (.ref f11) = true)
    (a12 : PySem.W.nsIn K mainGlobals "_law_of" = some (some (.ref f12)))
    (l12 : K.lookup f12 = some ⟨oc12, od12, .func (PySem.W.fnOf "_law_of" "_law_of" (defArgs sOf) (defBody sOf) (defScope sOf) .none kV12 dc12 pm12 an12 cd12 ct12), sl12⟩)
    (c12 : PySem.W.codeIn K cd12 "_law_of" = true)
    (k12 : PySem.W.keepIn K (.ref f12) = true)
    (a13 : PySem.W.nsIn K mainGlobals "_law_some" = some (some (.ref f13)))
    (l13 : K.lookup f13 = some ⟨oc13, od13, .func (PySem.W.fnOf "_law_some" "_law_some" (defArgs HI.sSome) (defBody HI.sSome) (defScope HI.sSome) .none kV13 dc13 pm13 an13 cd13 ct13), sl13⟩)
    (c13 : PySem.W.codeIn K cd13 "_law_some" = true)
    (k13 : PySem.W.keepIn K (.ref f13) = true)
    (a14 : PySem.W.nsIn K mainGlobals "_law_cells" = some (some (.ref f14)))
    (l14 : K.lookup f14 = some ⟨oc14, od14, .func (PySem.W.fnOf "_law_cells" "_law_cells" (defArgs sCells) (defBody sCells) (defScope sCells) .none kV14 dc14 pm14 an14 cd14 ct14), sl14⟩)
    (c14 : PySem.W.codeIn K cd14 "_law_cells" = true)
    (k14 : PySem.W.keepIn K (.ref f14) = true)
    (a15 : PySem.W.nsIn K mainGlobals "_law_tie" = some (some (.ref f15)))
    (l15 : K.lookup f15 = some ⟨oc15, od15, .func (PySem.W.fnOf "_law_tie" "_law_tie" (defArgs HI.sLTie) (defBody HI.sLTie) (defScope HI.sLTie) .none kV15 dc15 pm15 an15 cd15 ct15), sl15⟩)
    (c15 : PySem.W.codeIn K cd15 "_law_tie" = true)
    (k15 : PySem.W.keepIn K (.ref f15) = true)
    (a16 : PySem.W.nsIn K mainGlobals "_law_near" = some (some (.ref f16)))
    (l16 : K.lookup f16 = some ⟨oc16, od16, .func (PySem.W.fnOf "_law_near" "_law_near" (defArgs HI.sLNear) (defBody HI.sLNear) (defScope HI.sLNear) .none kV16 dc16 pm16 an16 cd16 ct16), sl16⟩)
    (c16 : PySem.W.codeIn K cd16 "_law_near" = true)
    (k16 : PySem.W.keepIn K (.ref f16) = true)
    (a17 : PySem.W.nsIn K mainGlobals "_law_fars" = some (some (.ref f17)))
    (l17 : K.lookup f17 = some ⟨oc17, od17, .func (PySem.W.fnOf "_law_fars" "_law_fars" (defArgs HI.sLFars) (defBody HI.sLFars) (defScope HI.sLFars) .none kV17 dc17 pm17 an17 cd17 ct17), sl17⟩)
    (c17 : PySem.W.codeIn K cd17 "_law_fars" = true)
    (k17 : PySem.W.keepIn K (.ref f17) = true)
    (a18 : PySem.W.nsIn K mainGlobals "_law_is_int" = some (some (.ref f18)))
    (l18 : K.lookup f18 = some ⟨oc18, od18, .func (PySem.W.fnOf "_law_is_int" "_law_is_int" (defArgs HI.sLisInt) (defBody HI.sLisInt) (defScope HI.sLisInt) .none kV18 dc18 pm18 an18 cd18 ct18), sl18⟩)
    (c18 : PySem.W.codeIn K cd18 "_law_is_int" = true)
    (k18 : PySem.W.keepIn K (.ref f18) = true)
    (a19 : PySem.W.nsIn K mainGlobals "_law_tree_near" = some (some (.ref f19)))
    (l19 : K.lookup f19 = some ⟨oc19, od19, .func (PySem.W.fnOf "_law_tree_near" "_law_tree_near" (defArgs HI.sLTN) (defBody HI.sLTN) (defScope HI.sLTN) .none kV19 dc19 pm19 an19 cd19 ct19), sl19⟩)
    (c19 : PySem.W.codeIn K cd19 "_law_tree_near" = true)
    (k19 : PySem.W.keepIn K (.ref f19) = true)
    (a20 : PySem.W.nsIn K mainGlobals "_law_is_tree" = some (some (.ref f20)))
    (l20 : K.lookup f20 = some ⟨oc20, od20, .func (PySem.W.fnOf "_law_is_tree" "_law_is_tree" (defArgs HI.sLTree) (defBody HI.sLTree) (defScope HI.sLTree) .none kV20 dc20 pm20 an20 cd20 ct20), sl20⟩)
    (c20 : PySem.W.codeIn K cd20 "_law_is_tree" = true)
    (k20 : PySem.W.keepIn K (.ref f20) = true)
    (a21 : PySem.W.nsIn K mainGlobals "_law_farthest" = some (some (.ref f21)))
    (l21 : K.lookup f21 = some ⟨oc21, od21, .func (PySem.W.fnOf "_law_farthest" "_law_farthest" (defArgs HI.sLFar) (defBody HI.sLFar) (defScope HI.sLFar) .none kV21 dc21 pm21 an21 cd21 ct21), sl21⟩)
    (c21 : PySem.W.codeIn K cd21 "_law_farthest" = true)
    (k21 : PySem.W.keepIn K (.ref f21) = true)
    (a22 : PySem.W.nsIn K mainGlobals "_law_drawn_tree" = some (some (.ref f22)))
    (l22 : K.lookup f22 = some ⟨oc22, od22, .func (PySem.W.fnOf "_law_drawn_tree" "_law_drawn_tree" (defArgs HI.sDrawn) (defBody HI.sDrawn) (defScope HI.sDrawn) .none kV22 dc22 pm22 an22 cd22 ct22), sl22⟩)
    (c22 : PySem.W.codeIn K cd22 "_law_drawn_tree" = true)
    (k22 : PySem.W.keepIn K (.ref f22) = true)
    (a23 : PySem.W.nsIn K mainGlobals "_law_limits_for" = some (some (.ref f23)))
    (l23 : K.lookup f23 = some ⟨oc23, od23, .func (PySem.W.fnOf "_law_limits_for" "_law_limits_for" (defArgs HI.sLimFor) (defBody HI.sLimFor) (defScope HI.sLimFor) .none kV23 dc23 pm23 an23 cd23 ct23), sl23⟩)
    (c23 : PySem.W.codeIn K cd23 "_law_limits_for" = true)
    (k23 : PySem.W.keepIn K (.ref f23) = true)
    (a24 : PySem.W.nsIn K mainGlobals "_law_heard" = some (some (.ref f24)))
    (l24 : K.lookup f24 = some ⟨oc24, od24, .func (PySem.W.fnOf "_law_heard" "_law_heard" (defArgs HI.sHeard) (defBody HI.sHeard) (defScope HI.sHeard) .none kV24 dc24 pm24 an24 cd24 ct24), sl24⟩)
    (c24 : PySem.W.codeIn K cd24 "_law_heard" = true)
    (k24 : PySem.W.keepIn K (.ref f24) = true)
    (a25 : PySem.W.nsIn K mainGlobals "_law_near_trees" = some (some (.ref f25)))
    (l25 : K.lookup f25 = some ⟨oc25, od25, .func (PySem.W.fnOf "_law_near_trees" "_law_near_trees" (defArgs HI.sNearT) (defBody HI.sNearT) (defScope HI.sNearT) .none kV25 dc25 pm25 an25 cd25 ct25), sl25⟩)
    (c25 : PySem.W.codeIn K cd25 "_law_near_trees" = true)
    (k25 : PySem.W.keepIn K (.ref f25) = true)
    (a26 : PySem.W.nsIn K mainGlobals "_law_right" = some (some (.ref f26)))
    (l26 : K.lookup f26 = some ⟨oc26, od26, .func (PySem.W.fnOf "_law_right" "_law_right" (defArgs HI.sRight) (defBody HI.sRight) (defScope HI.sRight) .none kV26 dc26 pm26 an26 (.ref cc26) ct26), sl26⟩)
    (c26 : PySem.W.codeIn K (.ref cc26) "_law_right" = true)
    (k26 : PySem.W.keepIn K (.ref f26) = true)
    (a27 : PySem.W.nsIn K mainGlobals "law" = some (some (.ref f27)))
    (l27 : K.lookup f27 = some ⟨oc27, od27, .func (PySem.W.fnOf "law" "law" (defArgs HI.sLaw) (defBody HI.sLaw) (defScope HI.sLaw) .none kV27 dc27 pm27 an27 cd27 ct27), sl27⟩)
    (c27 : PySem.W.codeIn K cd27 "law" = true)
    (k27 : PySem.W.keepIn K (.ref f27) = true)
    (eG : PySem.W.specialIn K (.builtin "object.__class__") "__get__" = some (some (.builtin "getset_descriptor.__get__")))
    (eT : PySem.W.takesIn K (.builtin "object.__class__") = some true)
    (g_MOST_LIMITS : PySem.W.nsIn K mainGlobals "MOST_LIMITS" = some (some (.int 200 tk0)))
    (g_MOST_TIES : PySem.W.nsIn K mainGlobals "MOST_TIES" = some (some (.int 200 tk1)))
    (z0 : PySem.W.nsIn K mainGlobals "len" = some none)
    (z1 : PySem.W.nsIn K mainGlobals "sum" = some none)
    (z2 : PySem.W.nsIn K mainGlobals "int" = some none)
    (z3 : PySem.W.nsIn K mainGlobals "abs" = some none)
    (z4 : PySem.W.nsIn K mainGlobals "list" = some none)
    (z5 : PySem.W.nsIn K mainGlobals "range" = some none)
    (z6 : PySem.W.nsIn K mainGlobals "max" = some none)
    (z7 : PySem.W.nsIn K mainGlobals "min" = some none)
    (z8 : PySem.W.nsIn K mainGlobals "isinstance" = some none)
    (z9 : PySem.W.nsIn K mainGlobals "tuple" = some none)
    (z10 : PySem.W.nsIn K mainGlobals "all" = some none)
    (z11 : PySem.W.nsIn K mainGlobals "zip" = some none)
    (z12 : PySem.W.nsIn K mainGlobals "enumerate" = some none)
    (z13 : PySem.W.nsIn K mainGlobals "sorted" = some none)
    (z14 : PySem.W.nsIn K mainGlobals "repr" = some none)
    (z15 : PySem.W.nsIn K mainGlobals "bool" = some none)
    (z16 : PySem.W.nsIn K mainGlobals "dict" = some none)
    (z17 : PySem.W.nsIn K mainGlobals "str" = some none)
    (aCS : PySem.W.nsIn K mainGlobals "HealError" = some (some (.ref CS)))
    (aE0 : PySem.W.nsIn K mainGlobals "BadLimits" = some (some (.ref E0)))
    (aE1 : PySem.W.nsIn K mainGlobals "NotTree" = some (some (.ref E1)))
    (iI : PySem.W.findIn K (.ref CS) "__init__" = some (some (.ref fI)))
    (lI : K.lookup fI = some ⟨ocI, odI, .func (PySem.W.fnOf "__init__" "HealError.__init__" (defArgs sIniH) (defBody sIniH) (defScope sIniH) .none kVI dcI pmI anI cdI ctI), slI⟩)
    (cI : PySem.W.codeIn K cdI "HealError.__init__" = true)
    (kI : PySem.W.keepIn K (.ref fI) = true)
    (xE0 : xclsB K fI E0 = true)
    (hE0 : caughtB K CS E0 = true)
    (tE0_0 : PySem.W.kitOne K (.ref E0) (.ref E0) = some true)
    (tE0_1 : PySem.W.kitOne K (.ref E0) (.ref E1) = some false)
    (xE1 : xclsB K fI E1 = true)
    (hE1 : caughtB K CS E1 = true)
    (tE1_0 : PySem.W.kitOne K (.ref E1) (.ref E0) = some false)
    (tE1_1 : PySem.W.kitOne K (.ref E1) (.ref E1) = some true)
    (tb26 : PySem.W.tabIn K "_law_right" = some (cc26, P26))
    (hd26 : PySem.W.codeHdIn K cc26 P26 = true)
    (ow26 : K.lookup P26 = none)
    (tt26 : h.get? P26 = some { cls := .none, data := .fields #[] })
    : ∃ fd cs sp, LawG l w K 9 63 "script" mg fa h fd cs sp := by
  have e := hfa.symm.trans (PySem.W.mg_of X G a27)
  cases e
  have B : Blt mg := ⟨PySem.W.mg_none_of X G z0, PySem.W.mg_none_of X G z1, PySem.W.mg_none_of X G z2, PySem.W.mg_none_of X G z3, PySem.W.mg_none_of X G z4, PySem.W.mg_none_of X G z5, PySem.W.mg_none_of X G z6, PySem.W.mg_none_of X G z7⟩
  have h_MOST_LIMITS : ∃ t, mg "MOST_LIMITS" = some (.int 200 t) := ⟨_, PySem.W.mg_of X G g_MOST_LIMITS⟩
  have h_MOST_TIES : ∃ t, mg "MOST_TIES" = some (.int 200 t) := ⟨_, PySem.W.mg_of X G g_MOST_TIES⟩
  have F0 := fun_mk (st := HI.sWithin) l0 c0 k0
  have b0 := F0.binds (ps := ["value", "least", "most"]) fun _ _ _ _ _ _ us hl => match us, hl with | [_, _, _], _ => rfl
  have F1 := fun_mk (st := HI.sAsc) l1 c1 k1
  have b1 := F1.binds (ps := ["values"]) fun _ _ _ _ _ _ us hl => match us, hl with | [_], _ => rfl
  have F2 := fun_mk (st := sTied) l2 c2 k2
  have b2 := F2.binds (ps := ["places", "ties"]) fun _ _ _ _ _ _ us hl => match us, hl with | [_, _], _ => rfl
  have F3 := fun_mk (st := HI.sAlong) l3 c3 k3
  have b3 := F3.binds (ps := ["tied", "place"]) fun _ _ _ _ _ _ us hl => match us, hl with | [_, _], _ => rfl
  have F4 := fun_mk (st := HI.sChkL) l4 c4 k4
  have b4 := F4.binds (ps := ["value"]) fun _ _ _ _ _ _ us hl => match us, hl with | [_], _ => rfl
  have F5 := fun_mk (st := HI.sTreeFor) l5 c5 k5
  have b5 := F5.binds (ps := ["limits", "value"]) fun _ _ _ _ _ _ us hl => match us, hl with | [_, _], _ => rfl
  have F6 := fun_mk (st := HI.sIsTieOf) l6 c6 k6
  have b6 := F6.binds (ps := ["value", "many"]) fun _ _ _ _ _ _ us hl => match us, hl with | [_, _], _ => rfl
  have F7 := fun_mk (st := HI.sTreeFar) l7 c7 k7
  have b7 := F7.binds (ps := ["limits", "ties"]) fun _ _ _ _ _ _ us hl => match us, hl with | [_, _], _ => rfl
  have F8 := fun_mk (st := HI.sWay) l8 c8 k8
  have b8 := F8.binds (ps := ["many", "ties"]) fun _ _ _ _ _ _ us hl => match us, hl with | [_, _], _ => rfl
  have F9 := fun_mk (st := HI.sLast) l9 c9 k9
  have b9 := F9.binds (ps := ["tied", "place"]) fun _ _ _ _ _ _ us hl => match us, hl with | [_, _], _ => rfl
  have F10 := fun_mk (st := sPot) l10 c10 k10
  have b10 := F10.binds (ps := ["script", "place"]) fun _ _ _ _ _ _ us hl => match us, hl with | [_, _], _ => rfl
  have F11 := fun_mk (st := sTake) l11 c11 k11
  have b11 := F11.binds (ps := ["pot", "upto"]) fun _ _ _ _ _ _ us hl => match us, hl with | [_, _], _ => rfl
  have F12 := fun_mk (st := sOf) l12 c12 k12
  have b12 := F12.binds (ps := ["pot", "some"]) fun _ _ _ _ _ _ us hl => match us, hl with | [_, _], _ => rfl
  have F13 := fun_mk (st := HI.sSome) l13 c13 k13
  have b13 := F13.binds (ps := ["pot", "pool", "many"]) fun _ _ _ _ _ _ us hl => match us, hl with | [_, _, _], _ => rfl
  have F14 := fun_mk (st := sCells) l14 c14 k14
  have b14 := F14.binds (ps := ["script", "most"]) fun _ _ _ _ _ _ us hl => match us, hl with | [_, _], _ => rfl
  have F15 := fun_mk (st := HI.sLTie) l15 c15 k15
  have b15 := F15.binds (ps := ["one", "other"]) fun _ _ _ _ _ _ us hl => match us, hl with | [_, _], _ => rfl
  have F16 := fun_mk (st := HI.sLNear) l16 c16 k16
  have b16 := F16.binds (ps := ["places", "ties"]) fun _ _ _ _ _ _ us hl => match us, hl with | [_, _], _ => rfl
  have F17 := fun_mk (st := HI.sLFars) l17 c17 k17
  have b17 := F17.binds (ps := ["near", "name"]) fun _ _ _ _ _ _ us hl => match us, hl with | [_, _], _ => rfl
  have F18 := fun_mk (st := HI.sLisInt) l18 c18 k18
  have b18 := F18.binds (ps := ["value", "least", "most"]) fun _ _ _ _ _ _ us hl => match us, hl with | [_, _, _], _ => rfl
  have F19 := fun_mk (st := HI.sLTN) l19 c19 k19
  have b19 := F19.binds (ps := ["many", "ties"]) fun _ _ _ _ _ _ us hl => match us, hl with | [_, _], _ => rfl
  have F20 := fun_mk (st := HI.sLTree) l20 c20 k20
  have b20 := F20.binds (ps := ["limits", "value"]) fun _ _ _ _ _ _ us hl => match us, hl with | [_, _], _ => rfl
  have F21 := fun_mk (st := HI.sLFar) l21 c21 k21
  have b21 := F21.binds (ps := ["many", "ties"]) fun _ _ _ _ _ _ us hl => match us, hl with | [_, _], _ => rfl
  have F22 := fun_mk (st := HI.sDrawn) l22 c22 k22
  have b22 := F22.binds (ps := ["pot", "many"]) fun _ _ _ _ _ _ us hl => match us, hl with | [_, _], _ => rfl
  have F23 := fun_mk (st := HI.sLimFor) l23 c23 k23
  have b23 := F23.binds (ps := ["pot", "many", "ties", "more"]) fun _ _ _ _ _ _ us hl => match us, hl with | [_, _, _, _], _ => rfl
  have F24 := fun_mk (st := HI.sHeard) l24 c24 k24
  have b24 := F24.binds (ps := ["call"]) fun _ _ _ _ _ _ us hl => match us, hl with | [_], _ => rfl
  have F25 := fun_mk (st := HI.sNearT) l25 c25 k25
  have b25 := F25.binds (ps := ["pot", "many", "ties"]) fun _ _ _ _ _ _ us hl => match us, hl with | [_, _, _], _ => rfl
  have F26 : FunC K "_law_right" "_law_right" HI.sRight f26 _ cc26 := ⟨_, _, _, _, _, _, _, _, rfl, l26, c26⟩
  have b26 : Binds K (PySem.W.fnOf "_law_right" "_law_right" (defArgs HI.sRight) (defBody HI.sRight) (defScope HI.sRight) .none kV26 dc26 pm26 an26 (.ref cc26) ct26) ["pot"] [] := .all fun us hl => match us, hl with | [_], _ => rfl
  have F27 := fun_mk (st := HI.sLaw) l27 c27 k27
  have b27 := F27.binds (ps := ["script"]) fun _ _ _ _ _ _ us hl => match us, hl with | [_], _ => rfl
  have FI := fun_mk (st := sIniH) lI cI kI
  have bI := FI.binds (ps := ["self", "value"]) fun _ _ _ _ _ _ us hl => match us, hl with | [_, _], _ => rfl
  have X0 : XCls K fI E0 := xclsB_ok xE0
  have X1 : XCls K fI E1 := xclsB_ok xE1
  refine ⟨(PySem.W.fnOf "law" "law" (defArgs HI.sLaw) (defBody HI.sLaw) (defScope HI.sLaw) .none kV27 dc27 pm27 an27 cd27 ct27), [(cc26, P26)], (HI.spLawT K [(P26, HI.lamQ)]), ⟨(fun p hp => by rw [List.mem_singleton.mp hp]; exact tt26), (fun p hp => by rw [List.mem_singleton.mp hp]; exact ow26), (fun p hp => by rw [List.mem_singleton.mp hp]; exact PySem.W.codeHd_of_K X hd26), fun s v => .of_eq rfl, (fun H a ns hl _ hT hS => ⟨a, ns, rfl, hS, hl, (fun p hp => by rw [List.mem_singleton.mp hp]; exact LamX.TabS.nil (hT _ List.mem_cons_self)), fun _ => rfl⟩), fun base _ _ hTB => ?_⟩⟩
  have TB := hTB (cc26, P26) List.mem_cons_self
  have GI0 : FnOk l.prog w K mg base CX0 1 fI _ ["self", "value"] (spIniX K) := ok_iniH FI
  let c : Nat → Addr := fun i => match i with | 0 => E0 | _ => E1
  have C2 : HI.Cls2 K CS c := ⟨fun i hi dd => match i, hi with | 0, _ => caught_by hE0 | 1, _ => caught_by hE1, fun i j hi hj => match i, j, hi, hj with | 0, 0, _, _ => tE0_0 | 0, 1, _, _ => tE0_1 | 1, 0, _, _ => tE1_0 | 1, 1, _, _ => tE1_1⟩
  have kb7 : KBinds K (PySem.W.fnOf "tree_farthest" "tree_farthest" (defArgs HI.sTreeFar) (defBody HI.sTreeFar) (defScope HI.sTreeFar) .none kV7 dc7 pm7 an7 cd7 ct7) ["limits", "ties"] ["ties", "limits"] gRev gVRev := kb2 rfl fun s a b => .of_eq rfl
  have G__law_pot_ok_pot : FnOk l.prog w K mg base _ 1 f10 _ _ _ := Hw.ok_pot (k := 0) F10 B
  have G__law_cells_ok_cells : FnOk l.prog w K mg base _ 1 f14 _ _ _ := Hw.ok_cells (k := 0) F14 B
  have G__law_take_ok_take : FnOk l.prog w K mg base _ 1 f11 _ _ _ := Hw.ok_take (k := 0) F11 B
  have G__law_some_ok_someI : FnOk l.prog w K mg base _ 2 f13 _ _ _ := HI.ok_someI (k := 1) F13 B G__law_take_ok_take (PySem.W.mg_of X G a11) k11 b11
  have G__law_tie_ok_ltie : FnOk l.prog w K mg base _ 1 f15 _ _ _ := HI.ok_ltie (k := 0) F15 B
  have G__law_drawn_tree_ok_drawn : FnOk l.prog w K mg base _ 3 f22 _ _ _ := HI.ok_drawn (k := 2) F22 B (PySem.W.mg_none_of X G z13) (PySem.W.mg_none_of X G z9) G__law_some_ok_someI (PySem.W.mg_of X G a13) k13 b13 (G__law_take_ok_take.mono (show 1 ≤ 2 by decide)) (PySem.W.mg_of X G a11) k11 b11 (G__law_tie_ok_ltie.mono (show 1 ≤ 2 by decide)) (PySem.W.mg_of X G a15) k15 b15
  have G__law_near_ok_lnear : FnOk l.prog w K mg base _ 1 f16 _ _ _ := HI.ok_lnear (k := 0) F16 (PySem.W.mg_none_of X G z16)
  have G__law_tree_near_ok_ltnF : FnOk l.prog w K mg base _ 2 f19 _ _ _ := HI.ok_ltnF (k := 1) F19 B G__law_near_ok_lnear (PySem.W.mg_of X G a16) k16 b16
  have G__law_of_ok_of2 : FnOk l.prog w K mg base _ 2 f12 _ _ _ := Hw.ok_of2 (k := 1) F12 B G__law_take_ok_take (PySem.W.mg_of X G a11) k11 b11
  have G__law_limits_for_ok_limfor : FnOk l.prog w K mg base _ 3 f23 _ _ _ := HI.ok_limfor (k := 2) F23 B (PySem.W.mg_none_of X G z9) G__law_tree_near_ok_ltnF (PySem.W.mg_of X G a19) k19 b19 G__law_of_ok_of2 (PySem.W.mg_of X G a12) k12 b12
  have G__law_near_trees_ok_neart : FnOk l.prog w K mg base _ 3 f25 _ _ _ := HI.ok_neart (k := 2) F25 B (PySem.W.mg_none_of X G z9) (PySem.W.mg_none_of X G z13) (PySem.W.mg_none_of X G z17) (G__law_take_ok_take.mono (show 1 ≤ 2 by decide)) (PySem.W.mg_of X G a11) k11 b11 G__law_of_ok_of2 (PySem.W.mg_of X G a12) k12 b12
  have G__law_is_int_ok_lisint : FnOk l.prog w K mg base _ 1 f18 _ _ _ := HI.ok_lisint (k := 0) F18 B (PySem.W.mg_none_of X G z8) (PySem.W.mg_none_of X G z15)
  have G__law_tree_near_ok_ltn : FnOk l.prog w K mg base _ 2 f19 _ _ _ := HI.ok_ltn (k := 1) F19 B G__law_near_ok_lnear (PySem.W.mg_of X G a16) k16 b16
  have G__law_fars_ok_lfars : FnOk l.prog w K mg base _ 1 f17 _ _ _ := HI.ok_lfars (k := 0) F17
  have G__law_is_tree_ok_ltree : FnOk l.prog w K mg base _ 3 f20 _ _ _ := HI.ok_ltree (k := 2) F20 B (PySem.W.mg_none_of X G z8) (PySem.W.mg_none_of X G z9) (PySem.W.mg_none_of X G z10) (PySem.W.mg_none_of X G z11) (G__law_is_int_ok_lisint.mono (show 1 ≤ 2 by decide)) (PySem.W.mg_of X G a18) k18 b18 G__law_tree_near_ok_ltn (PySem.W.mg_of X G a19) k19 b19 (G__law_fars_ok_lfars.mono (show 1 ≤ 2 by decide)) (PySem.W.mg_of X G a17) k17 b17
  have G__law_farthest_ok_lfarthest : FnOk l.prog w K mg base _ 3 f21 _ _ _ := HI.ok_lfarthest (k := 2) F21 B G__law_tree_near_ok_ltn (PySem.W.mg_of X G a19) k19 b19 (G__law_fars_ok_lfars.mono (show 1 ≤ 2 by decide)) (PySem.W.mg_of X G a17) k17 b17
  have G__law_heard_ok_heardT : FnGL l.prog w K mg base _ 7 f24 _ _ _ := HI.ok_heardT (c := c) (k := 5) F24 (PySem.W.mg_none_of X G z8) C2 (PySem.W.mg_of X G aCS) (PySem.W.mg_of X G aE0) (PySem.W.mg_of X G aE1)
  have G_is_within_ok_withinA : FnOk l.prog w K mg base _ 1 f0 _ _ _ := Hw.ok_withinA (k := 0) F0 B (PySem.W.mg_none_of X G z8) (PySem.W.mg_none_of X G z15)
  have G_check_limits_ok_chklim : FnOk l.prog w K mg base _ 3 f4 _ _ _ := HI.ok_chklim (j := 1) (k := 2) (by decide) F4 B (PySem.W.mg_none_of X G z8) (PySem.W.mg_none_of X G z9) (PySem.W.mg_none_of X G z10) h_MOST_LIMITS h_MOST_TIES X0 (PySem.W.mg_of X G aE0) GI0 bI (G_is_within_ok_withinA.mono (show 1 ≤ 2 by decide)) (PySem.W.mg_of X G a0) k0 b0
  have G_is_tie_of_ok_istieof : FnOk l.prog w K mg base _ 2 f6 _ _ _ := HI.ok_istieof (k := 1) F6 B (PySem.W.mg_none_of X G z8) (PySem.W.mg_none_of X G z9) (PySem.W.mg_none_of X G z10) G_is_within_ok_withinA (PySem.W.mg_of X G a0) k0 b0
  have G_ascends_ok_ascT : FnOk l.prog w K mg base _ 1 f1 _ _ _ := HI.ok_ascT (k := 0) F1 (PySem.W.mg_none_of X G z10) (PySem.W.mg_none_of X G z11)
  have G_tied_by_ok_tied : FnOk l.prog w K mg base _ 1 f2 _ _ _ := HI.ok_tied (k := 0) F2
  have G_far_along_ok_along : FnOk l.prog w K mg base _ 1 f3 _ _ _ := HI.ok_along (k := 0) F3 B
  have G_is_tree_for_ok_treefor : FnOk l.prog w K mg base _ 4 f5 _ _ _ := HI.ok_treefor (k := 3) F5 B (PySem.W.mg_none_of X G z8) (PySem.W.mg_none_of X G z9) (PySem.W.mg_none_of X G z10) (PySem.W.mg_none_of X G z12) G_check_limits_ok_chklim (PySem.W.mg_of X G a4) k4 b4 (G_is_tie_of_ok_istieof.mono (show 2 ≤ 3 by decide)) (PySem.W.mg_of X G a6) k6 b6 (G_ascends_ok_ascT.mono (show 1 ≤ 3 by decide)) (PySem.W.mg_of X G a1) k1 b1 (G_tied_by_ok_tied.mono (show 1 ≤ 3 by decide)) (PySem.W.mg_of X G a2) k2 b2 (G_far_along_ok_along.mono (show 1 ≤ 3 by decide)) (PySem.W.mg_of X G a3) k3 b3
  have G_last_reached_ok_last : FnOk l.prog w K mg base _ 2 f9 _ _ _ := HI.ok_last (k := 1) F9 B G_far_along_ok_along (PySem.W.mg_of X G a3) k3 b3
  have G_way_through_ok_wayG : FnOk l.prog w K mg base _ 3 f8 _ _ _ := HI.ok_wayG (k := 2) F8 B (G_tied_by_ok_tied.mono (show 1 ≤ 2 by decide)) (PySem.W.mg_of X G a2) k2 b2 G_last_reached_ok_last (PySem.W.mg_of X G a9) k9 b9
  have G_tree_farthest_ok_treefar : FnOk l.prog w K mg base _ 5 f7 _ _ _ := HI.ok_treefar (c := c) (j := 1) (k := 4) (by decide) F7 B X1 (PySem.W.mg_of X G aE1) GI0 bI G_is_tree_for_ok_treefor (PySem.W.mg_of X G a5) k5 b5 (G_way_through_ok_wayG.mono (show 3 ≤ 4 by decide)) (PySem.W.mg_of X G a8) k8 b8
  have G__law_right_ok_right : FnG l.prog w K mg base _ 8 f26 _ _ _ := HI.ok_right (c := c) (k := 7) (m := 5) F26 TB B (PySem.W.mg_none_of X G z14) (PySem.W.mg_none_of X G z9) (G__law_take_ok_take.mono (show 1 ≤ 7 by decide)) (PySem.W.mg_of X G a11) k11 b11 (G__law_drawn_tree_ok_drawn.mono (show 3 ≤ 7 by decide)) (PySem.W.mg_of X G a22) k22 b22 (G__law_limits_for_ok_limfor.mono (show 3 ≤ 7 by decide)) (PySem.W.mg_of X G a23) k23 b23 (G__law_near_trees_ok_neart.mono (show 3 ≤ 7 by decide)) (PySem.W.mg_of X G a25) k25 b25 (G__law_is_tree_ok_ltree.mono (show 3 ≤ 7 by decide)) (PySem.W.mg_of X G a20) k20 b20 (G__law_farthest_ok_lfarthest.mono (show 3 ≤ 7 by decide)) (PySem.W.mg_of X G a21) k21 b21 G__law_heard_ok_heardT (PySem.W.mg_of X G a24) k24 b24 (G_is_tree_for_ok_treefor.mono (show 4 ≤ 7 by decide)) (PySem.W.mg_of X G a5) k5 b5 G_tree_farthest_ok_treefar (PySem.W.mg_of X G a7) k7 kb7
  exact HI.ok_law (k := 8) F27 (PySem.W.mg_none_of X G z10) (G__law_pot_ok_pot.mono (show 1 ≤ 8 by decide)) (PySem.W.mg_of X G a10) k10 b10 (G__law_cells_ok_cells.mono (show 1 ≤ 8 by decide)) (PySem.W.mg_of X G a14) k14 b14 G__law_right_ok_right (PySem.W.mg_of X G a26) k26 b26
end Hw

set_option Elab.async false
open PySem PySem.W PyProof.Rows
set_option maxRecDepth 100000 in
set_option maxHeartbeats 0 in
theorem PySem.Challenge.cw_healedwebs_k40_trees_for_limits_holds : PySem.Challenge.rw_healedwebs_k40_trees_for_limits.Holds := by
  w_on; o_law; k_head; (case hw => w_witness2)
  k_fill
  refine Hw.walkGT (l := PySem.Challenge.rw_healedwebs_k40_trees_for_limits) (n := 63) (k := 9) (x := "script") rfl (by decide) rfl ⟨rfl, by decide, by decide⟩ (fun w h Y => PySem.W.km_in_of Y) ?F
  case F =>
    intro w mg fa h Y KX G hmg
    refine' Hw.all_mk KX G hmg ?q_a0 ?q_l0 ?q_c0 ?q_k0 ?q_a1 ?q_l1 ?q_c1 ?q_k1 ?q_a2 ?q_l2 ?q_c2 ?q_k2 ?q_a3 ?q_l3 ?q_c3 ?q_k3 ?q_a4 ?q_l4 ?q_c4 ?q_k4 ?q_a5 ?q_l5 ?q_c5 ?q_k5 ?q_a6 ?q_l6 ?q_c6 ?q_k6 ?q_a7 ?q_l7 ?q_c7 ?q_k7 ?q_a8 ?q_l8 ?q_c8 ?q_k8 ?q_a9 ?q_l9 ?q_c9 ?q_k9 ?q_a10 ?q_l10 ?q_c10 ?q_k10 ?q_a11 ?q_l11 ?q_c11 ?q_k11 ?q_a12 ?q_l12 ?q_c12 ?q_k12 ?q_a13 ?q_l13 ?q_c13 ?q_k13 ?q_a14 ?q_l14 ?q_c14 ?q_k14 ?q_a15 ?q_l15 ?q_c15 ?q_k15 ?q_a16 ?q_l16 ?q_c16 ?q_k16 ?q_a17 ?q_l17 ?q_c17 ?q_k17 ?q_a18 ?q_l18 ?q_c18 ?q_k18 ?q_a19 ?q_l19 ?q_c19 ?q_k19 ?q_a20 ?q_l20 ?q_c20 ?q_k20 ?q_a21 ?q_l21 ?q_c21 ?q_k21 ?q_a22 ?q_l22 ?q_c22 ?q_k22 ?q_a23 ?q_l23 ?q_c23 ?q_k23 ?q_a24 ?q_l24 ?q_c24 ?q_k24 ?q_a25 ?q_l25 ?q_c25 ?q_k25 ?q_a26 ?q_l26 ?q_c26 ?q_k26 ?q_a27 ?q_l27 ?q_c27 ?q_k27 ?q_eG ?q_eT ?q_g_MOST_LIMITS ?q_g_MOST_TIES ?q_z0 ?q_z1 ?q_z2 ?q_z3 ?q_z4 ?q_z5 ?q_z6 ?q_z7 ?q_z8 ?q_z9 ?q_z10 ?q_z11 ?q_z12 ?q_z13 ?q_z14 ?q_z15 ?q_z16 ?q_z17 ?q_aCS ?q_aE0 ?q_aE1 ?q_iI ?q_lI ?q_cI ?q_kI ?q_xE0 ?q_hE0 ?q_tE0_0 ?q_tE0_1 ?q_xE1 ?q_hE1 ?q_tE1_0 ?q_tE1_1 ?q_tb26 ?q_hd26 ?q_ow26 ?q_tt26
    (case q_a0 => k_is)
    (case q_a1 => k_is)
    (case q_a2 => k_is)
    (case q_a3 => k_is)
    (case q_a4 => k_is)
    (case q_a5 => k_is)
    (case q_a6 => k_is)
    (case q_a7 => k_is)
    (case q_a8 => k_is)
    (case q_a9 => k_is)
    (case q_a10 => k_is)
    (case q_a11 => k_is)
    (case q_a12 => k_is)
    (case q_a13 => k_is)
    (case q_a14 => k_is)
    (case q_a15 => k_is)
    (case q_a16 => k_is)
    (case q_a17 => k_is)
    (case q_a18 => k_is)
    (case q_a19 => k_is)
    (case q_a20 => k_is)
    (case q_a21 => k_is)
    (case q_a22 => k_is)
    (case q_a23 => k_is)
    (case q_a24 => k_is)
    (case q_a25 => k_is)
    (case q_a26 => k_is)
    (case q_a27 => k_is)
    (case q_aCS => k_is)
    (case q_aE0 => k_is)
    (case q_aE1 => k_is)
    (case q_iI => k_is)
    (case q_tb26 => first | exact rfl | k_is | kernel_rfl)
    (case q_l0 => k_is)
    (case q_c0 => k_is)
    (case q_k0 => k_is)
    (case q_l1 => k_is)
    (case q_c1 => k_is)
    (case q_k1 => k_is)
    (case q_l2 => k_is)
    (case q_c2 => k_is)
    (case q_k2 => k_is)
    (case q_l3 => k_is)
    (case q_c3 => k_is)
    (case q_k3 => k_is)
    (case q_l4 => k_is)
    (case q_c4 => k_is)
    (case q_k4 => k_is)
    (case q_l5 => k_is)
    (case q_c5 => k_is)
    (case q_k5 => k_is)
    (case q_l6 => k_is)
    (case q_c6 => k_is)
    (case q_k6 => k_is)
    (case q_l7 => k_is)
    (case q_c7 => k_is)
    (case q_k7 => k_is)
    (case q_l8 => k_is)
    (case q_c8 => k_is)
    (case q_k8 => k_is)
    (case q_l9 => k_is)
    (case q_c9 => k_is)
    (case q_k9 => k_is)
    (case q_l10 => k_is)
    (case q_c10 => k_is)
    (case q_k10 => k_is)
    (case q_l11 => k_is)
    (case q_c11 => k_is)
    (case q_k11 => k_is)
    (case q_l12 => k_is)
    (case q_c12 => k_is)
    (case q_k12 => k_is)
    (case q_l13 => k_is)
    (case q_c13 => k_is)
    (case q_k13 => k_is)
    (case q_l14 => k_is)
    (case q_c14 => k_is)
    (case q_k14 => k_is)
    (case q_l15 => k_is)
    (case q_c15 => k_is)
    (case q_k15 => k_is)
    (case q_l16 => k_is)
    (case q_c16 => k_is)
    (case q_k16 => k_is)
    (case q_l17 => k_is)
    (case q_c17 => k_is)
    (case q_k17 => k_is)
    (case q_l18 => k_is)
    (case q_c18 => k_is)
    (case q_k18 => k_is)
    (case q_l19 => k_is)
    (case q_c19 => k_is)
    (case q_k19 => k_is)
    (case q_l20 => k_is)
    (case q_c20 => k_is)
    (case q_k20 => k_is)
    (case q_l21 => k_is)
    (case q_c21 => k_is)
    (case q_k21 => k_is)
    (case q_l22 => k_is)
    (case q_c22 => k_is)
    (case q_k22 => k_is)
    (case q_l23 => k_is)
    (case q_c23 => k_is)
    (case q_k23 => k_is)
    (case q_l24 => k_is)
    (case q_c24 => k_is)
    (case q_k24 => k_is)
    (case q_l25 => k_is)
    (case q_c25 => k_is)
    (case q_k25 => k_is)
    (case q_l26 => k_is)
    (case q_c26 => k_is)
    (case q_k26 => k_is)
    (case q_l27 => k_is)
    (case q_c27 => k_is)
    (case q_k27 => k_is)
    (case q_eG => k_is)
    (case q_eT => k_is)
    (case q_g_MOST_LIMITS => k_is)
    (case q_g_MOST_TIES => k_is)
    (case q_z0 => k_is)
    (case q_z1 => k_is)
    (case q_z2 => k_is)
    (case q_z3 => k_is)
    (case q_z4 => k_is)
    (case q_z5 => k_is)
    (case q_z6 => k_is)
    (case q_z7 => k_is)
    (case q_z8 => k_is)
    (case q_z9 => k_is)
    (case q_z10 => k_is)
    (case q_z11 => k_is)
    (case q_z12 => k_is)
    (case q_z13 => k_is)
    (case q_z14 => k_is)
    (case q_z15 => k_is)
    (case q_z16 => k_is)
    (case q_z17 => k_is)
    (case q_lI => k_is)
    (case q_cI => k_is)
    (case q_kI => k_is)
    (case q_xE0 => first | k_is | kernel_rfl | rfl | decide +kernel)
    (case q_hE0 => first | k_is | kernel_rfl | rfl | decide +kernel)
    (case q_tE0_0 => first | kernel_rfl | rfl | decide +kernel)
    (case q_tE0_1 => first | kernel_rfl | rfl | decide +kernel)
    (case q_xE1 => first | k_is | kernel_rfl | rfl | decide +kernel)
    (case q_hE1 => first | k_is | kernel_rfl | rfl | decide +kernel)
    (case q_tE1_0 => first | kernel_rfl | rfl | decide +kernel)
    (case q_tE1_1 => first | kernel_rfl | rfl | decide +kernel)
    (case q_hd26 => first | k_is | kernel_rfl | rfl | decide +kernel)
    (case q_ow26 => first | k_is | kernel_rfl | rfl | decide +kernel)
    (case q_tt26 => exact PySem.W.km_tabs_of Y _ (by k_mem))
