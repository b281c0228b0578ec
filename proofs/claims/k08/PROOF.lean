import PyProof.Rows.All
import Wide.All
import OpenK.AllK
import Wide.FinOn
import HandS.ForMost
import HandS.ForExc
import HandS.DictComp
import KE.KExcIs
import HandS.ExcInit
import HandS.ExcField
import HandS.IsInst
import HandS.SetFor
import HandS.Flow
import HandS.Walk
import HandS.Evl
import HandS.Conv
import HandS.OwnEq
import HandS.FStr
import HandS.Star
import KE.GoesEnumKw
import KE.SortData
import HandS.TupLe
import Flt.Ops
import HandS.Zip
import HandS.TupAny
import HandS.StrMore
import HandS.Style
import HandS.More
import HandS.WordsDict
import PyProof.Rows.RegFStrParts
import HandS.WideBits
import HandS.MakeKw
import PySem.Challenge.RW_healedwebs_k08_first_deeds_elder_ties_an
set_option Elab.async false
set_option linter.all false
set_option maxRecDepth 100000
set_option maxHeartbeats 2000000
namespace Hw
open PySem L2 PyProof.Rows

/-! generic: powers of great ints, heaps but one place -/
def CPowW (i j : Int) : Prop := 0 ≤ j ∧ (Builtin.Int.intBits i : Int) * j ≤ 2 ^ 27
theorem op_powW {X : Cx} : OpR X (binaryOp .Pow) (rI CPowW fun i j => .int (i ^ j.toNat)) :=
  opI fun _ _ _ _ _ _ _ hc q => pow_int hc.1 hc.2 q
/-- all that is tracked but at a stays -/
def SameX (a : Addr) (H H' : Hp) : Prop := ∀ b o, b ≠ a → H b = some o → H' b = some o
theorem SameX.refl (a : Addr) (H : Hp) : SameX a H H := fun _ _ _ h => h
theorem SameX.trans {a : Addr} {H H1 H2 : Hp} (x : SameX a H H1) (y : SameX a H1 H2) : SameX a H H2 := fun b o hb h => y b o hb (x b o hb h)
theorem SameX.of {a : Addr} {H H' : Hp} (s : Same H H') : SameX a H H' := fun b o _ h => s b o h
theorem SameX.put {a : Addr} {H H' : Hp} {o : HO} (s : SameX a H H') : SameX a H (upd H' a o) := fun b u hb h => by
  rw [upd_ne hb]; exact s b u hb h
theorem SameX.free {a b : Addr} {H H' : Hp} (s : SameX a H H') (ha : H' a ≠ none) (h : H' b = none) : H b = none := by
  cases q : H b with
  | none => rfl
  | some o =>
    have hb : b ≠ a := fun e => ha (e ▸ h)
    rw [s b o hb q] at h; cases h
theorem same_upd {H : Hp} {p : Addr} {o : HO} (h : H p = none) : Same H (upd H p o) := fun b x e => by
  rw [upd_ne (ne_of_none e h)]; exact e
theorem sql_of {K : PySem.W.Frag} {H : Hp} {a : Addr} {xs : List V} (h : H a = some (.lst xs)) : SqL K H a xs := .inl (.inl h)
theorem sqt_of {K : PySem.W.Frag} {H : Hp} {a : Addr} {xs : List V} (h : H a = some (.tup xs)) : SqT K H a xs := .inl (.inl h)

/-! a pot: three ints, the third at most N -/
structure Pot (H : Hp) (a : Addr) (N : Nat) : Prop where
  ex : ∃ x y z : Int, H a = some (.lst [.int x, .int y, .int z]) ∧ 0 ≤ x ∧ 0 ≤ y ∧ y < 2 ^ 61 ∧ 0 ≤ z ∧ z ≤ N
theorem Pot.mono {H : Hp} {a : Addr} {N M : Nat} (p : Pot H a N) (h : N ≤ M) : Pot H a M := by
  obtain ⟨x, y, z, e, h1, h2, h3, h4, h5⟩ := p.ex
  exact ⟨x, y, z, e, h1, h2, h3, h4, by omega⟩
theorem Pot.same {H H' : Hp} {a : Addr} {N : Nat} (p : Pot H a N) (s : Same H H') : Pot H' a N := by
  obtain ⟨x, y, z, e, h⟩ := p.ex
  exact ⟨x, y, z, s _ _ e, h⟩
theorem Pot.some {H : Hp} {a : Addr} {N : Nat} (p : Pot H a N) : H a ≠ none := by
  obtain ⟨x, y, z, e, _⟩ := p.ex
  rw [e]; exact fun q => nomatch q
/-- what a place of the script is worth to a draw: any int -/
def spPot (K : PySem.W.Frag) : Sp := fun vs H Q _ => ∃ (a : Addr) (ns : List Int) (i : Int), vs = [.ref a, .int i] ∧ SqL K H a (ns.map V.int) ∧ ns.length ≤ 63 ∧ 0 ≤ i ∧ i < 1000 ∧
  ∀ p H', Same H H' → H p = none → Pot H' p 0 → Q (.ref p) H'
/-- a draw below u -/
def spTake : Sp := fun vs H Q _ => ∃ (a : Addr) (u : Int) (N : Nat), vs = [.ref a, .int u] ∧ Pot H a N ∧ N < 1000000000 ∧ 0 < u ∧ u < 1000000000 ∧
  ∀ r H', 0 ≤ r → r < u → SameX a H H' → Pot H' a (N + 1) → Q (.int r) H'
/-- one of the items of a list -/
def spOf (K : PySem.W.Frag) : Sp := fun vs H Q _ => ∃ (a b : Addr) (xs : List V) (N : Nat), vs = [.ref a, .ref b] ∧ Pot H a N ∧ N < 1000000000 ∧ SqL K H b xs ∧ a ≠ b ∧ 0 < xs.length ∧ xs.length < 1000000000 ∧
  ∀ (i : Nat) v H', xs[i]? = some v → SameX a H H' → Pot H' a (N + 1) → Q v H'
/-- the places of the script that are looked at -/
def spCells (K : PySem.W.Frag) : Sp := fun vs H Q _ => ∃ (a : Addr) (xs : List V) (m : Int), vs = [.ref a, .int m] ∧ SqL K H a xs ∧ xs.length ≤ 63 ∧ 0 < m ∧ m < 1000 ∧
  ∀ (n : Nat) p H', 0 < n → (n : Int) ≤ m → Same H H' → H p = none → H' p = some (.lst ((List.range n).map fun i : Nat => V.int (i : Int))) → Q (.ref p) H'
theorem bits_nat {i : Int} {n : Nat} (h : i.natAbs < 2 ^ n) : Builtin.Int.intBits i ≤ n := intBits_le h
end Hw

set_option Elab.async false
set_option linter.all false
set_option maxRecDepth 100000
set_option maxHeartbeats 4000000
namespace Hw
open PySem L2 PyProof.Rows
/-! defs that know that no repr runs around them -/
structure RoomG (k : Nat) (A : Around) : Prop where
  r : Room k A
  g : A.guards = some []
theorem RoomG.mono {j k : Nat} {A : Around} (r : RoomG k A) (h : j ≤ k) : RoomG j A := ⟨r.r.mono h, r.g⟩
theorem RoomG.deeper {k : Nat} {A : Around} (r : RoomG (k + 1) A) (env : Env) : RoomG k (A.deeper env) := ⟨r.r.deeper env, r.g⟩
theorem RoomG.make {k : Nat} {A : Around} (r : RoomG (k + 1) A) (C : Addr) (us : List Value) (kw : List (Str × Value)) : RoomG k (A.under (.builtin "type.__call__" ⟨.ref C :: us, kw⟩)) :=
  ⟨r.r.make C us kw, by
    have e : (A.under (.builtin "type.__call__" ⟨.ref C :: us, kw⟩)).guards = A.guards := by
      first | rfl | simp [Around.under, Code.guards, pushGuards, Code.isGuard, guardIds]
    rw [e]; exact r.g⟩
section
variable (P : Program) (w : World) (K : PySem.W.Frag) (mg : Str → Option Value) (base : Heap)
structure FnG (CX : CXT) (k : Nat) (f : Addr) (fd : FuncData) (ps : List Str) (sp : Sp) : Prop where
  len : ∀ vs H Q E, sp vs H Q E → vs.length = ps.length
  run : ∀ (A : Around) (outer : List Env) (s : Shared) (H : Hp) (args : Args) (us : List Value) (vs : List V) (Q : VK) (E : XK), RoomG k A → Env0 P w K mg base A outer s H →
    BindsTo s fd args (ps.zip us) → Vals vs us → sp vs H Q E → codeAny (model P w) A (.call (.ref f) args) (CR CX outer P w H s Q E) s
end
section
variable {P : Program} {w : World} {K : PySem.W.Frag} {mg : Str → Option Value} {base : Heap} {CX : CXT} {k : Nat} {f : Addr} {fd : FuncData} {ps : List Str} {sp sp' : Sp}
theorem toG (F : FnOk P w K mg base CX k f fd ps sp) : FnG P w K mg base CX k f fd ps sp := ⟨F.len, fun A o s H a us vs Q E hr => F.run A o s H a us vs Q E hr.r⟩
theorem FnG.mono {j : Nat} (F : FnG P w K mg base CX j f fd ps sp) (h : j ≤ k) : FnG P w K mg base CX k f fd ps sp := ⟨F.len, fun A o s H a us vs Q E hr => F.run A o s H a us vs Q E (hr.mono h)⟩
theorem FnG.imp (F : FnG P w K mg base CX k f fd ps sp) (h : ∀ vs H Q E, sp' vs H Q E → sp vs H Q E) : FnG P w K mg base CX k f fd ps sp' :=
  ⟨fun vs H Q E q => F.len vs H Q E (h _ _ _ _ q), fun A o s H a us vs Q E hr he hb hv hs => F.run A o s H a us vs Q E hr he hb hv (h _ _ _ _ hs)⟩
end
section
variable {X : Cx} {CX : CXT} {k : Nat} {f C : Addr} {fd : FuncData} {ps : List Str} {sp : Sp} {dvs : List V} {ds : List Value} {E : XK} {x m : Str} {p pos apos : Pos} {e o : Expr} {es : List Expr} {ta : TE} {t : TA}
theorem runG {pins : List (Addr × Obj)} {σ : L2.St} {H : Hp} {s : Shared} {Q : VK} {us : List Value} {vs : List V} (F : FnG X.prog X.w X.K X.mg X.base CX k f fd ps sp) (hr : RoomG k X.A) (hb : Binds X.K fd ps ds) (hd : Vals dvs ds)
    (hx : Passes CX X E) (I : Inv X pins σ H s) (r : Vals vs us) (h : sp (vs ++ dvs) H Q E) : wpAny (model X.prog X.w) X.A (call (.ref f) us) (EP X pins σ Q) X.xe s := by
  have rr : Vals (vs ++ dvs) (us ++ ds) := r.append hd
  have ll : (us ++ ds).length = ps.length := rr.length.symm.trans (F.len _ _ _ _ h)
  refine wpAny_call (codeAny_mono (F.run X.A X.stack s H ⟨us, []⟩ (us ++ ds) (vs ++ dvs) Q E hr I.env0 (hb s us I.kIn ll) rr h) fun r' s' hq => ?_)
  match r', hq with
  | .error er, hq => exact hx pins σ H s er s' I hq
  | .ok (.ret u), hq => exact I.after hq
  | .ok .next, hq => exact False.elim hq
  | .ok .brk, hq => exact False.elim hq
  | .ok .cont, hq => exact False.elim hq
theorem pe_callG (F : FnG X.prog X.w X.K X.mg X.base CX k f fd ps sp) (hr : RoomG k X.A) (hg : Gl X x) (hm : X.mg x = some (.ref f)) (hk : PySem.W.keepIn X.K (.ref f) = true) (hb : Binds X.K fd ps ds) (hd : Vals dvs ds)
    (hx : Passes CX X E) (ha : PA X (e :: es) t) (hdb : (x == ("__debug__" : Str)) = false := by decide) (he : starEach (e :: es) X.env = (false, eval e X.env) :: starEach es X.env := by rfl)
    (hpl : (backTo pos (starEach es X.env)).any (·.1) = false := by rfl) : PE X (.Call (.Name x p) (e :: es) [] pos) (tCall sp dvs E t) :=
  ⟨fun pins s σ H Q I h => wpAny_Call_Name_kw (ld_glob I hg hm (PySem.W.callWith_K (h₀ := X.base) I.ok.mod.kin hk (thn (ha.run pos pins s σ H _ I h) fun us s1 ⟨vs, H1, I1, r, q⟩ => ⟨I1.kIn, runG F hr hb hd hx I1 r q⟩) he hpl) hdb)⟩
theorem pe_call0G (F : FnG X.prog X.w X.K X.mg X.base CX k f fd ps sp) (hr : RoomG k X.A) (hg : Gl X x) (hm : X.mg x = some (.ref f)) (hk : PySem.W.keepIn X.K (.ref f) = true) (hb : Binds X.K fd ps ds) (hd : Vals dvs ds)
    (hx : Passes CX X E) (hdb : (x == ("__debug__" : Str)) = false := by decide) : PE X (.Call (.Name x p) [] [] pos) (tCall sp dvs E tNil) :=
  ⟨fun pins s σ H Q I h => wpAny_Call_Name_kw (ld_glob I hg hm (PySem.W.callWith_K0 I.kIn hk (runG (us := []) F hr hb hd hx I .nil h)) hdb)⟩
end
/-- a def by its body -/
theorem fnG_of {CX : CXT} {P : Program} {w : World} {K : PySem.W.Frag} {mg : Str → Option Value} {base : Heap} {k : Nat} {f : Addr} {name qual : Str} {params : Arguments} {body : List Stmt} {scope : Scope} {dV kV doc pm cdv ct oc : Value} {an od : Option Addr}
    {osl : Array (Option Value)} {N ps : List Str} {sp : Sp} (lk : K.lookup f = some ⟨oc, od, .func (PySem.W.fnOf name qual params body scope dV kV doc pm an cdv ct), osl⟩) (hcd : PySem.W.codeIn K cdv qual = true)
    (S : FnScope N ps scope) (len : ∀ vs H Q E, sp vs H Q E → vs.length = ps.length)
    (hbody : ∀ (A : Around) (outer : List Env) (s : Shared) (H : Hp) (vs : List V) (Q : VK) (E : XK), RoomG k (A.deeper (envOfC qual scope s.heap.objs.size f cdv)) → sp vs H Q E →
      ∃ t, PSs (cxOf CX P w K mg base N qual scope f cdv A outer s H E) body t ∧ t { nx := fun _ H' => Q .non H', rt := Q } (start N vs) H) :
    FnG P w K mg base CX (k + 1) f (PySem.W.fnOf name qual params body scope dV kV doc pm an cdv ct) ps sp := by
  refine ⟨len, fun A outer s H args us vs Q E hr e0 hb r hsp => ?_⟩
  have nl := len _ _ _ _ hsp
  have kin : K.In s.heap := e0.mod.kin.keeps fun b o e => (e0.bs b o e).1
  have nolim : s.heap.NoLimit := e0.mod.nolimit.keeps fun b o e => (e0.bs b o e).1
  have kinds : ∀ y ∈ ps.zip us, scope.names.lookup y.1 = some .local ∨ (scope.names.lookup y.1 = some .cell ∧ ((cellsFrom (s.heap.objs.size + 1) scope.names []).lookup y.1).isSome = true) := by
    rintro ⟨n, v⟩ hy
    rcases S.par n (List.of_mem_zip hy).1 with q | q
    · left; exact q
    · right; exact ⟨q, PySem.W.cellsFrom_some _ _ _ (.inl q)⟩
  refine codeAny_call_function hr.r.depth (kin _ _ lk) rfl S.co S.gen rfl (PySem.W.codeRec_of kin hcd) (hb _ _ _ _ ?_)
  refine wpAny_newFunctionEnv_cells S.kind kinds fun env he s1 x => ?_
  subst he
  refine ⟨nolim.keeps x.toInCall.keep, codeAny_func ?_⟩
  obtain ⟨t, ht, hq⟩ := hbody A outer s H vs Q E (hr.deeper _) hsp
  have I0 : Inv (cxOf CX P w K mg base N qual scope f cdv A outer s H E) [] (start N vs) H s1 := inv_start S hr.r.hd e0 nl r x
  refine wpAny_mono (ht.run [] s1 (start N vs) H _ I0 hq) (fun fl s' hs => ?_) fun _ _ hs => hs
  have done : ∀ {σ' : L2.St} {H' : Hp} {v : V} {u : Value}, Inv (cxOf CX P w K mg base N qual scope f cdv A outer s H E) [] σ' H' s' → RelV v u → Q v H' → CE outer P w H s Q u s' :=
    fun {_ H' v _} J rv q => ⟨v, H', J.os, J.bare, J.base, J.hok, rv, q⟩
  match fl, hs with
  | .ret u, ⟨v, σ', H', J, rv, q⟩ => exact done J rv q
  | .next, ⟨σ', H', J, q⟩ => exact done (v := V.non) (u := Value.none) J rfl q
  | .brk, ⟨_, _, _, q⟩ => exact False.elim q
  | .cont, ⟨_, _, _, q⟩ => exact False.elim q
section
variable {P : Program} {w : World} {K : PySem.W.Frag} {mg : Str → Option Value} {base : Heap}
theorem funG {x qual : Str} {st : Stmt} {f : Addr} {fd : FuncData} {N ps : List Str} {k : Nat} {sp : Sp} (F : Fun K x qual st f fd) (S : FnScope N ps (defScope st)) (len : ∀ vs H Q E, sp vs H Q E → vs.length = ps.length)
    (hbody : ∀ (cdv : Value) (A : Around) (outer : List Env) (s : Shared) (H : Hp) (vs : List V) (Q : VK) (E : XK), RoomG k (A.deeper (envOfC qual (defScope st) s.heap.objs.size f cdv)) → sp vs H Q E →
      ∃ t, PSs (cxOf CX0 P w K mg base N qual (defScope st) f cdv A outer s H E).nox (defBody st) t ∧ t { nx := fun _ H' => Q .non H', rt := Q } (start N vs) H) : FnG P w K mg base CX0 (k + 1) f fd ps sp := by
  obtain ⟨oc, od, kV, doc, pm, an, cdv, ct, osl, rfl, lk, hcd⟩ := F.ex
  exact fnG_of lk hcd S len fun A outer s H vs Q E hr hsp => by
    obtain ⟨t, h, q⟩ := hbody cdv A outer s H vs Q E hr hsp
    exact ⟨t, h.nox, q⟩
theorem funGX {x qual : Str} {st : Stmt} {f : Addr} {fd : FuncData} {N ps : List Str} {k : Nat} {sp : Sp} (F : Fun K x qual st f fd) (S : FnScope N ps (defScope st)) (len : ∀ vs H Q E, sp vs H Q E → vs.length = ps.length)
    (hbody : ∀ (cdv : Value) (A : Around) (outer : List Env) (s : Shared) (H : Hp) (vs : List V) (Q : VK) (E : XK), RoomG k (A.deeper (envOfC qual (defScope st) s.heap.objs.size f cdv)) → sp vs H Q E →
      ∃ t, PSs (cxOf (L2.CX P w) P w K mg base N qual (defScope st) f cdv A outer s H E) (defBody st) t ∧ t { nx := fun _ H' => Q .non H', rt := Q } (start N vs) H) : FnG P w K mg base (L2.CX P w) (k + 1) f fd ps sp := by
  obtain ⟨oc, od, kV, doc, pm, an, cdv, ct, osl, rfl, lk, hcd⟩ := F.ex
  exact fnG_of lk hcd S len fun A outer s H vs Q E hr hsp => hbody cdv A outer s H vs Q E hr hsp
end
/-- the law's call -/
theorem lawG {P : Program} {w : World} {K : PySem.W.Frag} {mg mb : Str → Option Value} {k : Nat} {fa a : Addr} {fd : FuncData} {x : Str} {sp : Sp} {s1 : Shared} {vs : List Value} {ns : List Int}
    (KX : K.In s1.heap) (hns : s1.heap.Ns mainGlobals mg) (hb : s1.heap.Ns builtinsNs mb) (hbb : ∀ x : Str, x ≠ "__name__" → mb x = bootBuiltins x) (hlim : s1.heap.NoLimit) (hgen : s1.gens = #[])
    (ha : s1.heap.get? a = some { cls := .type "list", data := .seq vs.toArray }) (hi : IntsAre vs ns) (hl : ns.length ≤ sizeLine) (hr : Room k callerA)
    (F : ∀ base : Heap, K.In base → base.Ns mainGlobals mg → FnG P w K mg base CX0 k fa fd [x] sp) (hbind : ∀ (s : Shared) (u : Value), BindsTo s fd ⟨[u], []⟩ [(x, u)])
    (hsp : ∀ H : Hp, Only H → SqL K H a (ns.map V.int) → sp [.ref a] H (fun v _ => v = .bl true) E0) :
    codeAny (model P w) callerA (.call (.ref fa) ⟨[.ref a], []⟩) (fun r s' => r = .ok (.ret (.bool true)) ∧ OldK s1.heap s'.heap ∧ s'.os = s1.os ∧ AllBare s'.gens) s1 := by
  have rv := vals_ints hi
  have core : ∀ H : Hp, Only H → SqL K H a (ns.map V.int) → HOk P w H s1.heap → (∀ b, H b ≠ none → b = a) → (H a ≠ none → K.lookup a = none) →
      codeAny (model P w) callerA (.call (.ref fa) ⟨[.ref a], []⟩) (fun r s' => r = .ok (.ret (.bool true)) ∧ OldK s1.heap s'.heap ∧ s'.os = s1.os ∧ AllBare s'.gens) s1 := by
    intro H hO hS hok onlyA notK
    have hid : ∀ {b : Addr} {o : Obj}, s1.heap.get? b = some o → H b = none → (hidT s1.heap H).get? b = some o := fun e n => hidT_get e n
    have free : ∀ {b : Addr}, (b = a → False) → H b = none := fun {b} h => by
      cases q : H b with
      | none => rfl
      | some u => exact (h (onlyA b (by rw [q]; simp))).elim
    have nsH : ∀ {b : Addr} {m : Str → Option Value}, s1.heap.Ns b m → (hidT s1.heap H).Ns b m := fun {b m} ⟨o, es, ep, e, d, r⟩ => by
      refine ⟨o, es, ep, hid e (free fun z => ?_), d, r⟩
      subst z
      rw [ha] at e
      have e' := Option.some.inj e
      rw [← e'] at d
      cases d
    have kinH : K.In (hidT s1.heap H) := fun b o e => by
      refine hid (KX b o e) ?_
      by_cases hba : b = a
      · subst hba
        cases q : H b with
        | none => rfl
        | some u =>
          have z := notK (by rw [q]; simp)
          rw [e] at z; cases z
      · exact free hba
    have modH : Mod K mg (hidT s1.heap H) := ⟨kinH, nsH hns, ⟨mb, nsH hb, hbb⟩, let ⟨mc, h1, h2⟩ := hlim; ⟨mc, nsH h1, h2⟩⟩
    have env0 : Env0 P w K mg (hidT s1.heap H) callerA [] s1 H := ⟨rfl, modH, fun b o e => of_hidT e, Nat.le_of_eq (hidT_size _ _), trivial, fun b hb => (by cases hb), hok, .of_eq hgen⟩
    refine codeAny_mono ((F _ kinH (nsH hns)).run callerA [] s1 H ⟨[.ref a], []⟩ [.ref a] [.ref a] _ _ ⟨hr, rfl⟩ env0 (hbind s1 (.ref a)) (.cons rfl .nil) (hsp H hO hS)) fun r s' h => ?_
    match r, h with
    | .error e, h => exact False.elim h
    | .ok .next, h => exact False.elim h
    | .ok .brk, h => exact False.elim h
    | .ok .cont, h => exact False.elim h
    | .ok (.ret u), h =>
      obtain ⟨v, H', os, bare, un, hok', r', q⟩ := h
      obtain rfl : v = .bl true := q
      obtain rfl : u = Value.bool true := r'
      refine ⟨rfl, OldK.of_keep fun b o e => ?_, os, bare⟩
      cases q : H b with
      | none => exact un.keep b o e q (by intro z; cases z) (by intro z; cases z)
      | some u =>
        obtain ⟨ob, xs, z⟩ : ∃ o xs, H b = some (.frz o (.lst xs)) := (hO b).resolve_left (by rw [q]; simp)
        have e1 := (hok b _ z).1
        have e2 := (hok' b _ (un.frzs b ob _ z)).1
        rw [e] at e1
        cases e1
        exact e2
  cases hk : K.lookup a with
  | some o =>
    have e := KX a o hk
    rw [ha] at e
    cases e
    exact core (fun _ => none) (fun _ => .inl rfl) (.inr ⟨_, vs.toArray, _, hk, rfl, rfl, rfl, by rw [List.size_toArray, hi.length]; exact hl, by simpa using rv⟩) (fun b u z => by cases (show (none : Option HO) = some u from z)) (fun b z => absurd rfl z) fun z => absurd rfl z
  | none =>
    have at_ : ∀ {b : Addr}, b ≠ a → (if b = a then some (HO.frz { cls := .type "list", data := .seq vs.toArray } (.lst (ns.map V.int))) else none) = none := fun h => if_neg h
    refine core (fun b => if b = a then some (.frz { cls := .type "list", data := .seq vs.toArray } (.lst (ns.map V.int))) else none) (fun b => ?_) (.inl (.inr ⟨{ cls := .type "list", data := .seq vs.toArray }, if_pos rfl⟩)) (fun b u z => ?_) (fun b z => ?_) fun _ => hk
    · by_cases hba : b = a
      · exact .inr ⟨_, _, if_pos hba⟩
      · exact .inl (at_ hba)
    · by_cases hba : b = a
      · subst hba
        have z' := (if_pos rfl).symm.trans z
        cases z'
        exact ⟨ha, by rw [List.length_map]; exact hl, vs, _, rv, ha⟩
      · have z' := (at_ hba).symm.trans z
        cases z'
    · by_cases hba : b = a
      · exact hba
      · exact absurd (at_ hba) z
theorem walkG {l : PySem.W.OpenLaw} {n k : Nat} {q : Program} {loose : List Str} {XP : (Str → Option Value) → Heap → Prop} {YP : World → Heap → Prop} {d : DefRec} {K : Params → PySem.W.Frag} {sp : World → Sp} {x : Str}
    (hn : l.most = some n) (hn2 : n ≤ sizeLine) (hdf : d.params.defaults = []) (hr : Room k callerA) (hY : ∀ (w : World) (h : Heap), YP w h → (K w.params).In h)
    (F : ∀ (w : World) (mg : Str → Option Value) (fa : Addr) (h : Heap), (K w.params).In h → h.Ns mainGlobals mg → mg d.name = some (.ref fa) →
      ∃ fd : FuncData, (∀ (s : Shared) (u : Value), BindsTo s fd ⟨[u], []⟩ [(x, u)]) ∧ ∀ base : Heap, (K w.params).In base → base.Ns mainGlobals mg → FnG l.prog w (K w.params) mg base CX0 k fa fd [x] (sp w))
    (hsp : ∀ (w : World) (H : Hp) (a : Addr) (ns : List Int), ns.length ≤ n → Only H → SqL (K w.params) H a (ns.map V.int) → sp w [.ref a] H (fun v _ => v = .bl true) E0) :
    PySem.W.WalkO q loose XP YP l.row.toRowW d [] (fun f vs => PySem.call f vs) := by
  refine Att.attach_call hn hdf fun w s0 s1 mg mb fa o pm cd doc a vs ns G Y ho hd hcd hmg hobj hints hlen hgen => ?_
  have KX := hY w _ Y
  obtain ⟨fd, hb, hF⟩ := F w mg fa _ KX G.T.g hmg
  exact lawG KX G.T.g G.T.b G.T.builtins G.T.nolimit hgen hobj hints (Nat.le_trans hlen hn2) hr hF hb (fun H hO hS => hsp w H a ns hlen hO hS)
end Hw

set_option Elab.async false
set_option linter.all false
set_option maxRecDepth 100000
set_option maxHeartbeats 4000000
namespace Hw
open PySem L2 PyProof.Rows
/-! repr of data -/
mutual
theorem Dp_noDict {K : PySem.W.Frag} {H : Hp} : ∀ (d : PyData) (v : V), Dp K H v d → d.hasDict = false
  | .none, _, _ => by simp only [PyData.hasDict]
  | .bool _, _, _ => by simp only [PyData.hasDict]
  | .int _, _, _ => by simp only [PyData.hasDict]
  | .str _, _, _ => by simp only [PyData.hasDict]
  | .list ds, _, h => by
    cases h with
    | lst _ ha => simp only [PyData.hasDict]; exact DpAll_noDict ds _ ha
  | .tuple ds, _, h => by
    cases h with
    | tup _ ha => simp only [PyData.hasDict]; exact DpAll_noDict ds _ ha
  | .dict _, _, h => nomatch h
theorem DpAll_noDict {K : PySem.W.Frag} {H : Hp} : ∀ (ds : List PyData) (vs : List V), DpAll K H vs ds → PyData.hasDictAll ds = false
  | [], _, _ => by simp only [PyData.hasDictAll]
  | d :: ds, _, h => by
    cases h with
    | cons h1 h2 =>
      simp only [PyData.hasDictAll]
      rw [Dp_noDict d _ h1, DpAll_noDict ds _ h2]; rfl
end
/-- what is flat, as data -/
def flatPD : V → Option PyData
  | .non => some .none
  | .bl b => some (.bool b)
  | .int i => some (.int i)
  | .str x => some (.str x)
  | _ => none
def keyPD : Key → PyData
  | .inl i => .int i
  | .inr x => .str x
/-- a dict with flat values, as data -/
def DpK (H : Hp) (v : V) (d : PyData) : Prop := ∃ (a : Addr) (kvs : List (Key × V)) (ds : List (PyData × PyData)), v = .ref a ∧ H a = some (.dK kvs) ∧ d = .dict ds ∧
  Paired (fun p q => q.1 = keyPD p.1 ∧ flatPD p.2 = some q.2) kvs ds
def rRepr (K : PySem.W.Frag) : List V → Hp → VK → Prop := fun xs H Q => ∃ (x : V) (d : PyData), xs = [x] ∧ (Dp K H x d ∨ DpK H x d) ∧ d.showable = true ∧ d.depth ≤ 60 ∧ d.shown.length ≤ sizeLine ∧ Q (.str d.shown) H
theorem flat_reads {h : Heap} {v : V} {d : PyData} {u : Value} (e : flatPD v = some d) (r : RelV v u) : Reads h u d [] := by
  cases v with
  | non => cases e; cases r; exact .none
  | bl b => cases e; cases r; exact .bool b
  | int i => cases e; obtain ⟨t, rfl⟩ := r; exact .int i t
  | str x => cases e; obtain ⟨t, rfl⟩ := r; exact .str x t
  | byt b => cases e
  | flt b => cases e
  | ref a => cases e
  | ty n => cases e
theorem key_reads {P : Program} {w : World} {h : Heap} {k : Key} {u : Value} (e : (mixKind P w).is k u = true) : Reads h u (keyPD k) [] := by
  rcases keyIs_shape e with ⟨i, t, rfl, rfl⟩ | ⟨x, t, rfl, rfl⟩
  · exact .int i t
  · exact .str x t
theorem dict_reads {P : Program} {w : World} {h : Heap} : ∀ {kvs : List (Key × V)} {ds : List (PyData × PyData)} {vs : List (Key × Value)} {es : List DictEntry}, Paired (fun p q => q.1 = keyPD p.1 ∧ flatPD p.2 = some q.2) kvs ds → KV kvs vs → PySem.Pairs (mixKind P w) es vs →
    ReadsAll h (es.map (·.key)) (ds.map (·.1)) [] ∧ ReadsAll h (es.map (·.val)) (ds.map (·.2)) []
  | [], _, _, _, .nil, kv, pr => by cases kv; cases pr; exact ⟨.nil, .nil⟩
  | p :: kvs, q :: ds, _, _, .cons a t, kv, pr => by
    cases kv with
    | cons k1 k2 =>
      cases pr with
      | cons p1 p2 p3 =>
        obtain ⟨r1, r2⟩ := dict_reads t k2 p3
        obtain ⟨e1, e2⟩ := a
        refine ⟨?_, ?_⟩
        · have z : ReadsAll h _ _ ([] ++ []) := .cons (key_reads (h := h) p1) r1
          rw [← k1.1, ← e1] at z
          exact z
        · have y := flat_reads (h := h) e2 k1.2
          rw [← p2] at y
          exact (ReadsAll.cons y r2 : ReadsAll h _ _ ([] ++ []))
section
variable {X : Cx}
theorem call_repr (hg : X.A.guards = some []) (hu : X.A.units + 100 < cLine) : CallR X (.builtin "repr") (rRepr X.K) := by
  intro pins s σ H xs us Q I r h
  obtain ⟨x, d, rfl, hd, hs, hdp, hz, q⟩ := h
  obtain ⟨u, w', rfl, ru, rw'⟩ : ∃ u w', us = [u] ∧ RelV x u ∧ w' = us := by
    cases r with
    | cons a t => cases t; exact ⟨_, _, rfl, a, rfl⟩
  have fin : ∀ h' (tk : Tok) (tk' : Nat), (∀ b o, s.heap.get? b = some o → h'.get? b = some o) → EP X pins σ Q (.str d.shown tk) { s with heap := h', toks := tk' } := fun h' tk tk' k => ⟨.str d.shown, H, I.kept (t' := tk') k, ⟨tk, rfl⟩, q⟩
  have big : ∀ {a : Addr} {as : List Addr}, Reads s.heap (.ref a) d as → (d.hasDict = true → sysModules ∉ as) → wpAny (model X.prog X.w) X.A (call (.builtin "repr") [.ref a]) (EP X pins σ Q) X.xe s := fun {a as} r1 hm =>
    repr_of_reads' (h₀ := s.heap) r1 hs hm hg (by omega) (fun _ _ e => e) (fun h' u tk k => fin h' u tk k) hz
  rcases hd with hd | ⟨a, kvs, ds, rfl, ha, rfl, hp⟩
  · have nd := Dp_noDict d x hd
    obtain ⟨as, r1⟩ := Dp.reads I d x u hd ru
    cases hd with
    | non => cases ru; exact P.repr_of_none (fin s.heap _ _ fun _ _ e => e)
    | bl b =>
      cases ru
      refine P.repr_of_bool ?_
      have z := fin s.heap s.toks (s.toks + 1) fun _ _ e => e
      simpa only [PyData.shown] using z
    | int i =>
      obtain ⟨t, rfl⟩ := ru
      refine P.repr_of_int (by simpa only [PyData.showable, decide_eq_true_eq] using hs) ?_
      have z := fin s.heap s.toks (s.toks + 1) fun _ _ e => e
      simpa only [PyData.shown] using z
    | str y =>
      obtain ⟨t, rfl⟩ := ru
      refine P.repr_of_str ?_ (by simpa only [PyData.shown] using hz)
      have z := fin s.heap s.toks (s.toks + 1) fun _ _ e => e
      simpa only [PyData.shown] using z
    | lst h1 h2 => cases ru; exact big r1 (by rw [nd]; exact fun z => nomatch z)
    | tup h1 h2 => cases ru; exact big r1 (by rw [nd]; exact fun z => nomatch z)
  · cases ru
    obtain ⟨hl, hsys, vs, kv, o, es, ep, ho, hex, hdat, _, hpr, _⟩ := dk_of I.hok ha
    obtain ⟨r1, r2⟩ := dict_reads (h := s.heap) hp kv hpr
    refine big (.dict ho hex.1 hdat r1 r2) fun _ hm => ?_
    have e : sysModules = a := by simpa using hm
    rw [← e] at hsys
    simp at hsys
end
end Hw

set_option Elab.async false
set_option linter.all false
set_option maxRecDepth 100000
set_option maxHeartbeats 4000000
namespace Hw
open PySem L2 PyProof.Rows
/-! an exception held as a value: the object at a, its own dict at d -/
def XAt (H : Hp) (a C d : Addr) (v : V) : Prop := H a = some (exo a C (some d)) ∧ H d = some (exd d [("value", v)])
theorem XAt.same {H H' : Hp} {a C d : Addr} {v : V} (x : XAt H a C d v) (s : Same H H') : XAt H' a C d v := ⟨s _ _ x.1, s _ _ x.2⟩
theorem XAt.sameX {H H' : Hp} {a C d p : Addr} {v : V} (x : XAt H a C d v) (s : SameX p H H') (ha : a ≠ p) (hd : d ≠ p) : XAt H' a C d v := ⟨s _ _ ha x.1, s _ _ hd x.2⟩
/-- what the written part says of such a class -/
structure XCls (K : PySem.W.Frag) (fI C : Addr) : Prop where
  o : OexC K C
  x : XfC K C
  noV : PySem.W.findIn K (.ref C) "value" = some none
  ini : PySem.W.findIn K (.ref C) "__init__" = some (some (.ref fI))
  tI : PySem.W.typeIn K (.ref fI) = some (.type "function")
  cl : (PySem.W.clsIn K C).isSome = true
  ha : PySem.W.findIn K (.ref C) "__class__" = some (some (.builtin "object.__class__"))
  hn : PySem.W.specialIn K (.builtin "object.__class__") "__get__" = some (some (.builtin "getset_descriptor.__get__"))
  ht : PySem.W.takesIn K (.builtin "object.__class__") = some true
  hm : PySem.W.mroIn K C (.type "object") = some true
def oexB (K : PySem.W.Frag) (C : Addr) : Bool := match K.lookup C with
  | some ⟨.type "type", _, .cls cd, sl⟩ => (match cd.mro, sl.toList with
    | .ref C' :: bm, [_, _, _, _, some (.builtin n), _] => C' == C && (n == "ValueError.__new__" && (!cd.hasDel && (cd.hasDict && PySem.HandSPX.refsVE bm)))
    | _, _ => false)
  | _ => false
theorem oexB_ok {K : PySem.W.Frag} {C : Addr} (q : oexB K C = true) :
    ∃ nm q N bs bm sn sub ab col dd k0 k1 k2 k3 k5, K.lookup C = some (excClassObj nm q C N bs bm true sn sub ab col dd k0 k1 k2 k3 k5 "ValueError.__new__") ∧ PySem.HandSPX.refsVE bm = true := by
  unfold oexB at q
  split at q
  · rename_i dd cd sl ho
    split at q
    · rename_i C' bm k0 k1 k2 k3 n k5 hm hs
      simp only [Bool.and_eq_true, beq_iff_eq, Bool.not_eq_true'] at q
      obtain ⟨rfl, rfl, hdel, hdi, hve⟩ := q
      obtain ⟨nm, bs, mro, ns, qn, hd, sn, sub, ab, col, del⟩ := cd
      dsimp only at hm hdel hdi
      subst hm hdel hdi
      have hsl : sl = #[k0, k1, k2, k3, some (.builtin "ValueError.__new__"), k5] := by
        obtain ⟨l⟩ := sl
        simp only at hs
        rw [hs]
      subst hsl
      exact ⟨nm, qn, ns, bs, bm, sn, sub, ab, col, dd, k0, k1, k2, k3, k5, ho, hve⟩
    · cases q
  · cases q
def xclsB (K : PySem.W.Frag) (fI C : Addr) : Bool :=
  oexB K C && (decide (PySem.W.findIn K (.ref C) "__setattr__" = some (some (.builtin "object.__setattr__"))) && (decide (PySem.W.subIn K (.ref C) (.type "BaseException") = some true) && (decide (PySem.W.typeIn K (.ref C) = some (.type "type")) && (PySem.W.keepIn K (.ref C) &&
  (xfB K C && (decide (PySem.W.findIn K (.ref C) "value" = some none) && (decide (PySem.W.findIn K (.ref C) "__init__" = some (some (.ref fI))) && (decide (PySem.W.typeIn K (.ref fI) = some (.type "function")) && ((PySem.W.clsIn K C).isSome &&
  (decide (PySem.W.findIn K (.ref C) "__class__" = some (some (.builtin "object.__class__"))) && (decide (PySem.W.specialIn K (.builtin "object.__class__") "__get__" = some (some (.builtin "getset_descriptor.__get__"))) &&
  (decide (PySem.W.takesIn K (.builtin "object.__class__") = some true) && decide (PySem.W.mroIn K C (.type "object") = some true)))))))))))))
theorem xclsB_ok {K : PySem.W.Frag} {fI C : Addr} (h : xclsB K fI C = true) : XCls K fI C := by
  unfold xclsB at h
  simp only [Bool.and_eq_true, decide_eq_true_eq] at h
  obtain ⟨a1, a2, a3, a4, a5, a6, a7, a8, a9, b1, b2, b3, b4, b5⟩ := h
  exact ⟨⟨oexB_ok a1, a2, a3, a4, a5⟩, xfB_ok a6, a7, a8, a9, b1, b2, b3, b4, b5⟩
/-- the promise of __init__(self, value) -/
def spIniX (K : PySem.W.Frag) : Sp := fun vs H Q _ => ∃ (a C fI : Addr) (v : V), vs = [.ref a, v] ∧ XCls K fI C ∧ H a = some (exo a C none) ∧
  ∀ dx, H dx = none → dx ≠ a → Q .non (upd (upd H dx (exd dx [("value", v)])) a (exo a C (some dx)))
/-- C(e): a new exception -/
def tMkX (C : Addr) (ta : TA) : TE := fun σ H Q => ta σ H fun vs H1 => ∃ v, vs = [v] ∧ ∀ a d, H1 a = none → H1 d = none → d ≠ a → Q (.ref a) (upd (upd H1 d (exd d [("value", v)])) a (exo a C (some d)))
/-- x.value of a held exception -/
def tXv (K : PySem.W.Frag) (n : Str) (te : TE) : TE := fun σ H Q => te σ H fun x H1 => ∃ (a C d fI : Addr) (v : V), x = .ref a ∧ n = "value" ∧ XCls K fI C ∧ XAt H1 a C d v ∧ Q v H1
/-- isinstance(x, c) of a held exception -/
def rIsX (K : PySem.W.Frag) : List V → Hp → VK → Prop := fun xs H Q => ∃ (a C d fI : Addr) (v c : V) (u : Value) (b : Bool), xs = [.ref a, c] ∧ ClsV c u ∧ XCls K fI C ∧ XAt H a C d v ∧ PySem.W.kitOne K (.ref C) u = some b ∧ Q (.bl b) H
section
variable {X : Cx}
theorem pe_mkX {x : Str} {C fI : Addr} {k : Nat} {fd : FuncData} {e : Expr} {es : List Expr} {ta : TA} {p pos : Pos} (T : XCls X.K fI C) (F1 : FnOk X.prog X.w X.K X.mg X.base CX0 k fI fd ["self", "value"] (spIniX X.K)) (hr : Room (k + 1) X.A) (hb : Binds X.K fd ["self", "value"] [])
    (hg : Gl X x) (hm : X.mg x = some (.ref C)) (ha : PA X (e :: es) ta) (hdb : (x == ("__debug__" : Str)) = false := by decide) (hs : starEach (e :: es) X.env = (false, eval e X.env) :: starEach es X.env := by rfl) (hpl : (backTo pos (starEach es X.env)).any (·.1) = false := by rfl) :
    PE X (.Call (.Name x p) (e :: es) [] pos) (tMkX C ta) := by
  refine ⟨fun pins s σ H Q I h => ?_⟩
  obtain ⟨nm, q, N, bs, bm, sn, sub, ab, col, dd, k0, k1, k2, k3, k5, hC, hbm⟩ := T.o.cls
  refine wpAny_Call_Name_kw (ld_glob I hg hm ?_ hdb)
  refine PySem.W.callWith_K (h₀ := X.base) I.ok.mod.kin T.o.kC (thn (ha.run pos pins s σ H _ I h) fun us s1 ⟨vs, H1, I1, r1, v, ev, q1⟩ => ⟨I1.kIn, ?_⟩) hs hpl
  subst ev
  show wpAny _ _ (call (.ref C) us) _ _ _
  obtain ⟨hp, g, dr, tk, os⟩ := s1
  have hsz : hp.objs.size ≤ hp.objs.size + 1 := Nat.le_succ _
  have hn : H1 (hp.objs.size + 1) = none := I1.hok.fresh hsz
  have keeps : ∀ b o, hp.get? b = some o → ((hp.push (PySem.W.kdv_tup us)).push (PySem.HandSPX.excO C hp.objs.size)).get? b = some o := fun b o e => Heap.get?_push_of_some _ (Heap.get?_push_of_some _ e)
  have made : ((hp.push (PySem.W.kdv_tup us)).push (PySem.HandSPX.excO C hp.objs.size)).get? (hp.objs.size + 1) = some (PySem.HandSPX.excO C hp.objs.size) := by heap_get
  have I2 : Inv X pins σ (upd H1 (hp.objs.size + 1) (exo (hp.objs.size + 1) C none)) ⟨(hp.push (PySem.W.kdv_tup us)).push (PySem.HandSPX.excO C hp.objs.size), g, dr, tk, os⟩ :=
    I1.laid (t' := tk) keeps hsz (exo_ok made)
  have r2 : Vals (V.ref (hp.objs.size + 1) :: [v]) (Value.ref (hp.objs.size + 1) :: us) := .cons rfl r1
  have hl : (Value.ref (hp.objs.size + 1) :: us).length = (["self", "value"] : List Str).length := by
    rw [← r2.length]; rfl
  have hus : us.length ≤ sizeLine := by
    rw [← Paired.length r1, sizeLine_eq]; show 1 ≤ 16777216; decide
  have hsp : spIniX X.K (V.ref (hp.objs.size + 1) :: [v]) (upd H1 (hp.objs.size + 1) (exo (hp.objs.size + 1) C none)) (fun v' H2 => v' = .non ∧ ∃ d, H1 d = none ∧ d ≠ hp.objs.size + 1 ∧ H2 = upd (upd H1 d (exd d [("value", v)])) (hp.objs.size + 1) (exo (hp.objs.size + 1) C (some d))) E0 := by
    refine ⟨_, C, fI, v, rfl, T, upd_same, fun dx n1 n2 => ⟨rfl, dx, ?_, n2, ?_⟩⟩
    · rw [upd_ne n2] at n1; exact n1
    · funext b
      by_cases hb : b = hp.objs.size + 1
      · rw [hb, upd_same, upd_same]
      · rw [upd_ne hb, upd_ne hb]
        by_cases hd : b = dx
        · rw [hd, upd_same, upd_same]
        · rw [upd_ne hd, upd_ne hd, upd_ne hb]
  refine wpAny_call (PySem.HandSPX.call_own F.excBase_ValueError (fun Y => PySem.HandSPX.refsVE_contains Y bm hbm) (I1.kIn _ _ hC) (PySem.W.looks_findIn I1.kIn T.ini) (fun self => PySem.W.bind_fn I1.kIn self T.tI) hus
    (codeAny_mono (F1.run _ X.stack _ _ ⟨Value.ref (hp.objs.size + 1) :: us, []⟩ (Value.ref (hp.objs.size + 1) :: us) _ _ E0 (hr.make C us []) (I2.env0.make C us []) (by have z := hb _ (Value.ref (hp.objs.size + 1) :: us) I2.kIn (by simpa using hl); simpa using z) r2 hsp) fun r s' hq' => ?_))
  cases r with
  | error er => exact hq'.elim
  | ok fl =>
    cases fl with
    | ret u =>
      obtain ⟨v', H2, os2, bare2, un2, hok2, rv, ev, d, nd, nda, rfl⟩ := hq'
      subst ev
      exact ⟨rv, .ref _, _, I2.call' (ch := []) os2 un2 hok2 bare2 (fun b z => absurd z (by simp)), rfl, q1 _ d hn nd nda⟩
    | next => exact False.elim hq'
    | brk => exact False.elim hq'
    | cont => exact False.elim hq'
theorem xinst {pins : List (Addr × Obj)} {σ : L2.St} {H : Hp} {s : Shared} {a C d : Addr} {v : V} (I : Inv X pins σ H s) (x : XAt H a C d v) :
    ∃ ox od mA, PySem.W.InstAt s.heap a ox C (some od) ∧ s.heap.Ns1 d mA ∧ (∀ f, RelO (List.lookup f [(("value" : Str), v)]) (mA f)) ∧ s.heap.get? d = some od := by
  obtain ⟨t1, e1⟩ := exo_at I.hok x.1
  obtain ⟨mA, hns, rel⟩ := exd_at I.hok x.2
  obtain ⟨od, es, ep, ho, rest⟩ := id hns
  exact ⟨_, od, mA, ⟨e1, rfl, rfl, ho⟩, hns, rel, ho⟩
theorem pe_xv {e : Expr} {te : TE} {pos : Pos} {n : Str} (he : PE X e te) (hb : attributeBase e n X.env (eval e X.env) = eval e X.env := by rfl) : PE X (.Attribute e n pos) (tXv X.K n te) := by
  refine ⟨fun pins s σ H Q I h => ?_⟩
  refine attr_of hb (thn (he.run pins s σ H _ I h) fun u s1 ⟨x, H1, I1, rx, a, C, d, fI, v, ex, en, T, xa, q⟩ => ?_)
  subst ex en
  obtain rfl : u = Value.ref a := rx
  obtain ⟨mA, hns, rel⟩ := exd_at I1.hok xa.2
  obtain ⟨t1, e1⟩ := exo_at I1.hok xa.1
  obtain ⟨od, ho, hl⟩ := lookIn_ns hns
  obtain ⟨u, hu, ru⟩ := RelO.some_of (v := v) (o := mA ("value" : Str)) (by have z := rel ("value" : Str); rwa [lookup_put, if_pos rfl] at z)
  have J : PySem.W.InstAt s1.heap a _ C (some od) := ⟨e1, rfl, rfl, ho⟩
  exact HandSPX.exc_get I1.kIn J T.x.ga T.x.gg T.x.exC (PySem.W.findObj_own T.x.hdC T.noV rfl (by rw [hl, hu])) (handed_of ru) ⟨v, H1, I1.tok _, ru, q⟩
theorem call_isX : CallR X (.builtin "isinstance") (rIsX X.K) := by
  intro pins s σ H xs us Q I r h
  obtain ⟨a, C, d, fI, v, c, u, b, rfl, hc, T, xa, e, q⟩ := h
  obtain ⟨u1, u2, rfl, r1, r2⟩ := vals2 r
  cases (show u1 = Value.ref a from r1)
  have e2 := hc.eq r2
  subst e2
  obtain ⟨ox, od, mA, J, _⟩ := xinst I xa
  exact PySem.W.kia_one (PySem.W.kitx_exc T.cl T.x.ga T.x.gg T.x.exC T.ha T.hn T.ht T.hm) I.kIn J e (fun z => nomatch z) fun tk => ⟨.bl b, H, I.tok tk, rfl, q⟩
end
end Hw

set_option Elab.async false
set_option linter.all false
set_option maxRecDepth 100000
set_option maxHeartbeats 4000000
namespace Hw
open PySem L2 PyProof.Rows
/-! written data, laid beside a place a -/
mutual
inductive Dx (a : Addr) (H : Hp) : V → PyData → Prop
  | flat {v : V} {d : PyData} : flatPD v = some d → Dx a H v d
  | lst {p : Addr} {xs : List V} {ds : List PyData} : H p = some (.lst xs) → p ≠ a → DxAll a H xs ds → Dx a H (.ref p) (.list ds)
  | tup {p : Addr} {xs : List V} {ds : List PyData} : H p = some (.tup xs) → p ≠ a → DxAll a H xs ds → Dx a H (.ref p) (.tuple ds)
  | dct {p : Addr} {kvs : List (Key × V)} {ds : List (PyData × PyData)} : H p = some (.dK kvs) → p ≠ a → (∀ q ∈ kvs, valV kvs q.1 = some q.2 ∧ flatB q.2 = true) → Paired (fun q e => e.1 = keyPD q.1 ∧ flatPD q.2 = some e.2) kvs ds → Dx a H (.ref p) (.dict ds)
inductive DxAll (a : Addr) (H : Hp) : List V → List PyData → Prop
  | nil : DxAll a H [] []
  | cons {v : V} {vs : List V} {d : PyData} {ds : List PyData} : Dx a H v d → DxAll a H vs ds → DxAll a H (v :: vs) (d :: ds)
end
section
variable {a : Addr} {H H' : Hp}
mutual
theorem Dx.keep (s : SameX a H H') : ∀ (v : V) (d : PyData), Dx a H v d → Dx a H' v d
  | _, .list ds, h => by
    cases h with
    | flat e => exact .flat e
    | lst h1 h2 h3 => exact .lst (s _ _ h2 h1) h2 (DxAll.keep s _ ds h3)
  | _, .tuple ds, h => by
    cases h with
    | flat e => exact .flat e
    | tup h1 h2 h3 => exact .tup (s _ _ h2 h1) h2 (DxAll.keep s _ ds h3)
  | _, .dict ds, h => by
    cases h with
    | flat e => exact .flat e
    | dct h1 h2 h3 h4 => exact .dct (s _ _ h2 h1) h2 h3 h4
  | _, .none, h => by cases h with | flat e => exact .flat e
  | _, .bool _, h => by cases h with | flat e => exact .flat e
  | _, .int _, h => by cases h with | flat e => exact .flat e
  | _, .str _, h => by cases h with | flat e => exact .flat e
theorem DxAll.keep (s : SameX a H H') : ∀ (vs : List V) (ds : List PyData), DxAll a H vs ds → DxAll a H' vs ds
  | _, [], h => by cases h; exact .nil
  | _, d :: ds, h => by
    cases h with
    | cons h1 h2 => exact .cons (Dx.keep s _ d h1) (DxAll.keep s _ ds h2)
end
theorem DxAll.length : ∀ {vs : List V} {ds : List PyData}, DxAll a H vs ds → vs.length = ds.length
  | _, _, .nil => rfl
  | _, _, .cons _ t => congrArg (· + 1) (DxAll.length t)
theorem DxAll.append : ∀ {vs ws : List V} {ds es : List PyData}, DxAll a H vs ds → DxAll a H ws es → DxAll a H (vs ++ ws) (ds ++ es)
  | _, _, _, _, .nil, t => t
  | _, _, _, _, .cons x y, t => .cons x (DxAll.append y t)
theorem DxAll.at : ∀ {vs : List V} {ds : List PyData} {i : Nat} {v : V}, DxAll a H vs ds → vs[i]? = some v → ∃ d, d ∈ ds ∧ Dx a H v d
  | _, _, _, _, .nil, e => by simp at e
  | _, _, 0, _, .cons x _, e => by
    simp at e; subst e
    exact ⟨_, List.mem_cons_self, x⟩
  | _, _, i + 1, v, .cons _ t, e => by
    obtain ⟨d, h1, h2⟩ := DxAll.at (i := i) t (by simpa using e)
    exact ⟨d, List.mem_cons_of_mem _ h1, h2⟩
theorem Dp_flat {K : PySem.W.Frag} {v : V} {d : PyData} (e : flatPD v = some d) : Dp K H v d := by
  cases v with
  | non => cases e; exact .non
  | bl b => cases e; exact .bl b
  | int i => cases e; exact .int i
  | str x => cases e; exact .str x
  | byt b => cases e
  | flt b => cases e
  | ref a => cases e
  | ty n => cases e
mutual
theorem Dx.dp (K : PySem.W.Frag) : ∀ (v : V) (d : PyData), d.hasDict = false → Dx a H v d → Dp K H v d
  | _, .list ds, n, h => by
    cases h with
    | flat e => exact Dp_flat e
    | lst h1 h2 h3 => exact .lst (sql_of h1) (DxAll.dp K _ ds (by simpa only [PyData.hasDict] using n) h3)
  | _, .tuple ds, n, h => by
    cases h with
    | flat e => exact Dp_flat e
    | tup h1 h2 h3 => exact .tup (sqt_of h1) (DxAll.dp K _ ds (by simpa only [PyData.hasDict] using n) h3)
  | _, .dict ds, n, h => by simp [PyData.hasDict] at n
  | _, .none, _, h => by cases h with | flat e => exact Dp_flat e
  | _, .bool _, _, h => by cases h with | flat e => exact Dp_flat e
  | _, .int _, _, h => by cases h with | flat e => exact Dp_flat e
  | _, .str _, _, h => by cases h with | flat e => exact Dp_flat e
theorem DxAll.dp (K : PySem.W.Frag) : ∀ (vs : List V) (ds : List PyData), PyData.hasDictAll ds = false → DxAll a H vs ds → DpAll K H vs ds
  | _, [], _, h => by cases h; exact .nil
  | _, d :: ds, n, h => by
    simp only [PyData.hasDictAll, Bool.or_eq_false_iff] at n
    cases h with
    | cons h1 h2 => exact .cons (Dx.dp K _ d n.1 h1) (DxAll.dp K _ ds n.2 h2)
end
end
/-! displays that lay data -/
def MkD (te : TE) (d : PyData) : Prop := ∀ (a : Addr) (σ : L2.St) (H : Hp) (Q : VK), H a ≠ none → (∀ v H', Same H H' → Dx a H' v d → Q v H') → te σ H Q
def MkA (ta : TA) (ds : List PyData) : Prop := ∀ (a : Addr) (σ : L2.St) (H : Hp) (Q : List V → Hp → Prop), H a ≠ none → (∀ vs H', Same H H' → DxAll a H' vs ds → Q vs H') → ta σ H Q
theorem same_some {a : Addr} {H H' : Hp} (s : Same H H') (h : H a ≠ none) : H' a ≠ none := by
  cases e : H a with
  | none => exact absurd e h
  | some o => rw [s _ _ e]; exact fun z => nomatch z
theorem mkA_nil : MkA tNil [] := fun _ _ H _ _ q => q [] H (Same.refl H) .nil
theorem mkA_cons {te : TE} {ta : TA} {d : PyData} {ds : List PyData} (h1 : MkD te d) (h2 : MkA ta ds) : MkA (tCons te ta) (d :: ds) := fun a σ H Q ha q =>
  h1 a σ H _ ha fun v H1 s1 x1 => h2 a σ H1 _ (same_some s1 ha) fun vs H2 s2 x2 => q (v :: vs) H2 (s1.trans s2) (.cons (Dx.keep (.of s2) _ _ x1) x2)
theorem mk_c {v : V} {d : PyData} (h : flatPD v = some d) : MkD (tC v) d := fun a σ H Q _ q => q v H (Same.refl H) (.flat h)
theorem mk_neg {i : Int} : MkD (tUn (rU fun i => .int (-i)) (tC (.int i))) (.int (-i)) := fun a σ H Q _ q => ⟨i, rfl, q _ H (Same.refl H) (.flat rfl)⟩
theorem mk_tup {ta : TA} {ds : List PyData} (h : MkA ta ds) (hl : ds.length ≤ 1000) : MkD (tTup ta) (.tuple ds) := fun a σ H Q ha q => h a σ H _ ha fun vs H1 s1 x1 =>
  ⟨Nat.le_of_lt (small1000 (by rw [x1.length]; exact hl)), fun p hp => q _ _ (s1.trans (same_upd hp)) (.tup upd_same (fun e => same_some s1 ha (e ▸ hp)) (DxAll.keep (.of (same_upd hp)) _ _ x1))⟩
theorem mk_lst {ta : TA} {ds : List PyData} (h : MkA ta ds) (hl : ds.length ≤ 1000) : MkD (tLst ta) (.list ds) := fun a σ H Q ha q => h a σ H _ ha fun vs H1 s1 x1 =>
  ⟨Nat.le_of_lt (small1000 (by rw [x1.length]; exact hl)), fun p hp => q _ _ (s1.trans (same_upd hp)) (.lst upd_same (fun e => same_some s1 ha (e ▸ hp)) (DxAll.keep (.of (same_upd hp)) _ _ x1))⟩
theorem mk_dnew : MkD tDNewK (.dict []) := fun a σ H Q ha q p hp => q _ _ (same_upd hp) (.dct upd_same (fun e => ha (e ▸ hp)) (fun _ z => nomatch z) .nil)
theorem mk_dict1 {k : Str} {i : Int} : MkD (tDisp [(tC (.str k), tC (.int i))]) (.dict [(.str k, .int i)]) := fun a σ H Q ha q p hp => by
  refine ⟨upd_same, [(Sum.inr k, .int i)], rfl, by show 1 ≤ 15; decide, ?_⟩
  refine q _ _ (fun b o e => ?_) (.dct upd_same (fun e => ha (e ▸ hp)) (kvs := [(Sum.inr k, .int i)]) ?_ (.cons ⟨rfl, rfl⟩ .nil))
  · have hb := ne_of_none e hp
    rw [upd_ne hb, upd_ne hb]; exact e
  · intro z hz
    rcases List.mem_cons.mp hz with rfl | hz
    · exact ⟨valV_pos (p := ((Sum.inr k : Key), V.int i)) (r := []) rfl, rfl⟩
    · cases hz
/-- what is shown of such data, and is equal to itself -/
def fineD (d : PyData) : Bool := d.showable && (decide (d.depth ≤ 60) && (decide (d.shown.length ≤ 1000) && (match d with | .dict _ => true | d => !d.hasDict && (SeqAt.shaped d && PyData.eqv d d))))
section
variable {X : Cx}
def rNeO (K : PySem.W.Frag) : R2 := fun x y H Q => ∃ (a : Addr) (d : PyData), y = x ∧ Dx a H x d ∧ fineD d = true ∧ Q (.bl false) H
theorem op_neO (hu : X.A.units + 64 < cLine) : OpR X (compareOp .NotEq) (rNeO X.K) := by
  intro pins s σ H x y v u Q I rx ry h
  obtain ⟨a, d, rfl, hd, hf, q⟩ := h
  unfold fineD at hf
  simp only [Bool.and_eq_true] at hf
  obtain ⟨_, _, _, hf⟩ := hf
  by_cases hdict : ∃ ds, d = .dict ds
  · obtain ⟨ds, rfl⟩ := hdict
    cases hd with
    | flat e => cases y <;> cases e
    | dct h1 h2 h3 h4 => exact op_ne_dictA (by omega) pins s σ H _ _ v u Q I rx ry ⟨_, _, _, _, rfl, rfl, h1, h1, rfl, h3, q⟩
  · have hf' : (!d.hasDict && (SeqAt.shaped d && PyData.eqv d d)) = true := by
      revert hf
      cases d with
      | dict ds => exact absurd ⟨ds, rfl⟩ hdict
      | _ => exact fun z => z
    simp only [Bool.and_eq_true, Bool.not_eq_true'] at hf'
    have z := Dx.dp X.K _ d hf'.1 hd
    exact op_neD hu pins s σ H _ _ v u Q I rx ry ⟨d, d, z, z, hf'.2.1, hf'.2.1, by rw [hf'.2.2]; exact q⟩
def rReprO : List V → Hp → VK → Prop := fun xs H Q => ∃ (x : V) (a : Addr) (d : PyData), xs = [x] ∧ Dx a H x d ∧ fineD d = true ∧ Q (.str d.shown) H
theorem call_reprO (hg : X.A.guards = some []) (hu : X.A.units + 100 < cLine) : CallR X (.builtin "repr") rReprO := by
  intro pins s σ H xs us Q I r h
  obtain ⟨x, a, d, rfl, hd, hf, q⟩ := h
  unfold fineD at hf
  simp only [Bool.and_eq_true, decide_eq_true_eq] at hf
  obtain ⟨h1, h2, h3, hf⟩ := hf
  refine call_repr hg hu pins s σ H _ us Q I r ⟨x, d, rfl, ?_, h1, h2, Nat.le_of_lt (small1000 h3), q⟩
  by_cases hdict : ∃ ds, d = .dict ds
  · obtain ⟨ds, rfl⟩ := hdict
    cases hd with
    | flat e => cases x <;> cases e
    | dct k1 k2 k3 k4 => exact .inr ⟨_, _, ds, rfl, k1, rfl, k4⟩
  · have hf' : (!d.hasDict && (SeqAt.shaped d && PyData.eqv d d)) = true := by
      revert hf
      cases d with
      | dict ds => exact absurd ⟨ds, rfl⟩ hdict
      | _ => exact fun z => z
    simp only [Bool.and_eq_true, Bool.not_eq_true'] at hf'
    exact .inl (Dx.dp X.K _ d hf'.1 hd)
/-- count(True) of bools -/
def isT : Value → Bool
  | .bool b => b
  | _ => false
def rCntT (K : PySem.W.Frag) : V → List V → Hp → VK → Prop := fun x xs H Q => ∃ (p : Addr) (bs : List Bool), x = .ref p ∧ xs = [.bl true] ∧ SqL K H p (bs.map V.bl) ∧ Q (.int (bs.count true : Nat)) H
theorem cnt_isT : ∀ {bs : List Bool} {us : List Value}, Vals (bs.map V.bl) us → us.countP isT = bs.count true
  | [], _, r => by cases r; rfl
  | b :: bs, _, r => by
    cases r with
    | cons r1 r2 =>
      have ih := cnt_isT r2
      rename_i u us'
      obtain rfl : u = Value.bool b := r1
      rw [List.countP_cons, ih, List.count_cons]
      cases b <;> rfl
theorem mem_vals : ∀ {bs : List Bool} {us : List Value}, Vals (bs.map V.bl) us → ∀ y ∈ us, ∃ b, y = Value.bool b
  | [], _, r, y, hy => by cases r; cases hy
  | b :: bs, _, r, y, hy => by
    cases r with
    | cons r1 r2 =>
      rcases List.mem_cons.mp hy with rfl | hy
      · exact ⟨b, r1⟩
      · exact mem_vals r2 y hy
theorem mt_cntT : MtR X "list.count" (rCntT X.K) := by
  intro pins s σ H x xs v us Q I rx rxs h
  obtain ⟨p, bs, rfl, rfl, hs, q⟩ := h
  cases rx
  obtain ⟨u, rfl, ru⟩ := rxs.one
  obtain rfl : u = Value.bool true := ru
  obtain ⟨its, rv, ⟨⟨cls, dd, data, sl⟩, n, ho, hc, hdn, hd⟩, hlen⟩ := I.list hs
  simp only at hc hd
  subst hc hd
  refine call_meets PySem.F.slot_list_count ⟨_, ho, rfl⟩ PySem.F.entry_list_count (PySem.F.args_list_count_2 _ _)
    (SeqAt.list_countAt p its.toArray n dd sl (.bool true) isT) ⟨ho, fun y hy => ?_, ?_⟩
  · obtain ⟨b, rfl⟩ := mem_vals rv y (by simpa using hy)
    have z := eqAt_V (A := X.A.in1) (s := s) (y := .bl b) (x := .bl true) (u := .bool b) (v := .bool true) rfl rfl rfl rfl
    have e : eqV (.bl b) (.bl true) = isT (.bool b) := by cases b <;> rfl
    rw [e] at z
    exact z
  · refine ⟨.int (bs.count true : Nat), H, I.tok _, ⟨s.toks, ?_⟩, q⟩
    have ec : its.toArray.toList.countP isT = bs.count true := cnt_isT rv
    rw [ec]
end
end Hw

set_option Elab.async false
set_option linter.all false
set_option maxRecDepth 100000
set_option maxHeartbeats 4000000
namespace Hw
open PySem L2 PyProof.Rows
section
variable {t u : TS} {te ta tb : TE} {g : TG} {D : Ends} {σ : L2.St} {H : Hp} {Q : VK} {tl tr : TA} {r : R2} {QA : List V → Hp → Prop} {sp : Sp} {dvs : List V} {E : XK}
theorem r_seq (h : t { D with nx := u D } σ H) : tSeq t u D σ H := h
theorem r_asg (h : te σ H fun x H1 => g x σ H1 D.nx) : tAsg te g D σ H := h
theorem r_ret (h : te σ H D.rt) : tRet te D σ H := h
theorem r_cons (h : te σ H fun x H1 => tr σ H1 fun xs H2 => QA (x :: xs) H2) : tCons te tr σ H QA := h
theorem r_op (h : ta σ H fun x H1 => tb σ H1 fun y H2 => r x y H2 Q) : tOp r ta tb σ H Q := h
theorem r_call (h : tl σ H fun vs H1 => sp (vs ++ dvs) H1 Q E) : tCall sp dvs E tl σ H Q := h
theorem r_var {i : Nat} {v : V} (e : σ[i]? = some (some v)) (h : Q v H) : tVar i σ H Q := ⟨v, e, h⟩
end
theorem lst_use {ta : TA} {ds : List PyData} {a : Addr} {σ : L2.St} {H : Hp} {Q : VK} (ha : H a ≠ none) (q : ∀ p xs H', Same H H' → H' p = some (.lst xs) → p ≠ a → DxAll a H' xs ds → Q (.ref p) H') (m : MkA ta ds) (hl : ds.length ≤ 1000) : tLst ta σ H Q :=
  mk_lst m hl a σ H Q ha fun v H' s x => by
    cases x with
    | flat e => cases v <;> cases e
    | lst h1 n1 x1 => exact q _ _ H' s h1 n1 x1
section
variable {t u : TS} {te to : TE} {D : Ends} {σ : L2.St} {H : Hp} {i : Nat} {c : TT} {ta : TA} {K : PySem.W.Frag} {T : String} {r : V → List V → Hp → VK → Prop}
theorem rs_set (h : te σ H fun x H1 => u D (σ.set i (some x)) H1) : tSeq (tAsg te (gName i)) u D σ H := h
theorem rs_bm (h : to σ H fun x H1 => tyV K T x H1 ∧ ta σ H1 fun xs H2 => r x xs H2 fun _ H3 => u D σ H3) : tSeq (tDrop (tBM K T r to ta)) u D σ H := h
theorem rs_ifR (h : c σ H fun b H1 => if b = true then te σ H1 D.rt else u D σ H1) : tSeq (tIfS c (tRet te) tNext) u D σ H := h
theorem r1_ifR (h : c σ H fun b H1 => if b = true then te σ H1 D.rt else D.nx σ H1) : tIfS c (tRet te) tNext D σ H := h
end
/-! tests that come out false, new objects apart -/
def AnsF (t : TT) (σ : L2.St) (H : Hp) : Prop := ∀ Q : Bool → Hp → Prop, (∀ H', Same H H' → Q false H') → t σ H Q
section
variable {t u : TT} {σ : L2.St} {H : Hp} {te : TE} {us : TS} {D : Ends}
theorem ansF_or (h1 : AnsF t σ H) (h2 : ∀ H', Same H H' → AnsF u σ H') : AnsF (tOr t u) σ H := fun Q q =>
  h1 _ fun H1 s1 => by
    show if false = true then Q true H1 else u σ H1 Q
    rw [if_neg Bool.false_ne_true]
    exact h2 H1 s1 Q fun H2 s2 => q H2 (s1.trans s2)
theorem rs_skip (h1 : AnsF t σ H) (h : ∀ H', Same H H' → us D σ H') : tSeq (tIfS t (tRet te) tNext) us D σ H := h1 _ fun H1 s1 => by
  show if false = true then _ else _
  rw [if_neg Bool.false_ne_true]
  exact h H1 s1
theorem r1_skip (h1 : AnsF t σ H) (h : ∀ H', Same H H' → D.nx σ H') : tIfS t (tRet te) tNext D σ H := h1 _ fun H1 s1 => by
  show if false = true then _ else _
  rw [if_neg Bool.false_ne_true]
  exact h H1 s1
end
section
variable {u : TS} {D : Ends} {σ : L2.St} {H : Hp} {i j : Nat} {ta : TA} {v : V} {Q : L2.St → Hp → Prop}
theorem rs_par (h : ta σ H fun vs H1 => ∃ v w, vs = [v, w] ∧ u D ((σ.set i (some v)).set j (some w)) H1) : tSeq (tPar i j ta) u D σ H := h
theorem r_gname (h : Q (σ.set i (some v)) H) : gName i v σ H Q := h
end
theorem rs_enum {K : PySem.W.Frag} {u tb : TS} {g : TG} {D : Ends} {σ : L2.St} {H : Hp} {i : Nat} {p : Addr} {xs : List V} (e : σ[i]? = some (some (.ref p))) (hs : SqL K H p xs) (Pv : Nat → L2.St → Hp → Prop) (h0 : Pv 0 σ H)
    (hG : ∀ j σ H, j ≤ xs.length → Pv j σ H → SqL K H p xs)
    (turn : ∀ j x σ H T, j < xs.length → Pv j σ H → H T = none → xs[j]? = some x → g (.ref T) σ (upd H T (.tup [.int (j : Int), x])) fun σ2 H2 => tb { D with nx := Pv (j + 1), ct := Pv (j + 1), bk := u D } σ2 H2)
    (done : ∀ σ H, Pv xs.length σ H → u D σ H) : tSeq (tFor (iEnum K (tCons (tVar i) tNil)) g tb) u D σ H :=
  ⟨.ref p, e, p, xs, rfl, hs, for_it walk_enum Pv h0 hG (fun j x σ H H' hj hp ⟨T, xa, ya, ex, nT, eH, e1, e2⟩ => by
    subst ex eH
    obtain rfl : V.int (j : Int) = xa := Option.some.inj e1
    exact turn j ya σ H T hj hp nT e2) done⟩
theorem paired_at {α β : Type} {F : α → β → Prop} : ∀ {xs : List α} {ys : List β} {i : Nat} {y : β}, Paired F xs ys → ys[i]? = some y → ∃ x, xs[i]? = some x ∧ F x y
  | _, _, _, _, .nil, e => by simp at e
  | _, _, 0, _, .cons a _, e => by simp at e; subst e; exact ⟨_, rfl, a⟩
  | _, _, i + 1, y, .cons _ t, e => by
    obtain ⟨x, h1, h2⟩ := paired_at (i := i) t (by simpa using e)
    exact ⟨x, by simpa using h1, h2⟩
theorem r_yes {σ : L2.St} {H : Hp} {te : TE} {Q1 : VK} {B : Prop} (h : te σ H Q1) : tYes σ H fun b H3 => if b = true then te σ H3 Q1 else B := by
  show if true = true then te σ H Q1 else B
  rw [if_pos rfl]
  exact h
end Hw

set_option Elab.async false
set_option linter.all false
set_option maxRecDepth 100000
set_option maxHeartbeats 4000000
namespace HN
open PySem PySem.Spec PyProof.Rows PySem.SeqAt
section
variable {prog : Program} {w : World} {A : Around} {E : Value → Shared → Prop} {s : Shared} {K : PySem.W.Frag} {x C f : Addr} {ox : Obj} {od : Option Obj} {b tb : Value}
/-- how an answer is turned about -/
def NotBack (Q : Value → Shared → Prop) (v : Value) (s' : Shared) : Prop := ∃ r, v = .bool r ∧ Q (.bool (!r)) s'
theorem ne_entry {Q : Fin → Shared → Prop} (hu : A.units < cLine) (X : K.In s.heap) (I : PySem.W.InstAt s.heap x ox C od) (hs : PySem.W.findIn K (.ref C) "__eq__" = some (some (.ref f))) (hf : PySem.W.isFn K (.ref f) = true)
    (h : wpAny (model prog w) A (call (.ref f) [.ref x, b]) (NotBack fun v s' => Q (.done (.ret v)) s') E s) : wpAny (model prog w) A (Builtin.«object.__ne__» ⟨[.ref x, b], []⟩) Q E s := by
  have one : wpAny (model prog w) A (callSpecialIfBound? (.ref x) "__eq__" [b]) (fun r s' => ∃ q, r = some (.bool q) ∧ Q (.done (.ret (.bool (!q)))) s') E s :=
    PySem.W.ifBound_K X I hs hf (wpAny_mono h (fun v s' z => by
      obtain ⟨r, e, q⟩ := z
      exact ⟨r, by rw [e], q⟩) fun _ _ e => e)
  unfold Builtin.«object.__ne__»
  repeat (first
    | with_reducible refine wpAny_cRoomFor hu ?_
    | (refine wpAny_bind (m := callSpecialIfBound? (.ref x) (Str.ofString "__eq__") [b]) (wpAny_mono one (fun r s' z => by
        obtain ⟨q, e, hq⟩ := z
        subst e
        repeat (first | exact hq | exact wpAny_pure hq | exact wpAny_truthy_bool hq | (refine wpAny_bind (m := truthy (.bool _)) (wpAny_truthy_bool ?_)) | wp_step)) fun _ _ e => e))
    | wp_step)
theorem ifBound_objNe {M : Model} {args : List Value} {Q : Option Value → Shared → Prop} (X : K.In s.heap) (I : PySem.W.InstAt s.heap x ox C od) (hs : PySem.W.findIn K (.ref C) "__ne__" = some (some (.builtin "object.__ne__")))
    (h : wpAny M A (call (.builtin "object.__ne__") (.ref x :: args)) (fun v => Q (some v)) E s) : wpAny M A (callSpecialIfBound? (.ref x) "__ne__" args) Q E s := by
  simp only [callSpecialIfBound?, bindSpecialIfBound?]
  refine wpAny_holding (wpAny_bind (wpAny_bind (wpAny_bind (I.type.here ((PySem.W.looks_findIn X hs).here ?_)))))
  refine wpAny_bind (wpAny_askSetting (wpAny_ite ?_))
  have last : wpAny M A (call (.builtin "object.__ne__") ([.ref x] ++ args) >>= fun v => pure (some v)) Q E s := wpAny_bind (wpAny_mono h (fun v s' z => wpAny_pure z) fun _ _ z => z)
  have nb := F.cmp_object.ne.bind
  split
  · exact wpAny_bind (wpAny_of_eq (nb _) (wpAny_pure (by exact last)))
  · exact wpAny_tryCatch (wpAny_bind (wpAny_of_eq (nb _) (wpAny_pure (by exact last))))
theorem rich_ne {Q : Value → Shared → Prop} (hu : A.units + 1 < cLine) (X : K.In s.heap) (I : PySem.W.InstAt s.heap x ox C od) (hb : PySem.W.Looks (model prog w) s.heap (typeOf b) tb) (hn : PySem.W.notFirst K C tb = true)
    (hm : PySem.W.mroIn K C (.type "object") = some true) (hs : PySem.W.findIn K (.ref C) "__eq__" = some (some (.ref f))) (hf : PySem.W.isFn K (.ref f) = true) (hne : PySem.W.findIn K (.ref C) "__ne__" = some (some (.builtin "object.__ne__")))
    (h : wpAny (model prog w) A.in1 (call (.ref f) [.ref x, b]) (NotBack Q) E s) : wpAny (model prog w) A (richCompare .NotEq (.ref x) b) Q E s := by
  have one : wpAny (model prog w) A (tryCompare (.ref x) "__ne__" b) (fun r s' => ∃ v, r = some v ∧ Q v s') E s := by
    unfold tryCompare
    refine wpAny_bind (ifBound_objNe X I hne (wpAny_call (codeAny_call_builtin F.cmp_object.ne.plain F.cmpEntry_ne (PySem.W.check_slot F.cmpKind_ne F.cmpSplit_ne (I.type.andThen (PySem.W.looks_mroIn X hm)) (F.cmpArgs_ne _ _) (ne_entry (A := A.in1) hu X I hs hf (wpAny_mono h (fun v s' z => ?_) fun _ _ e => e))))))
    obtain ⟨r, e, q⟩ := z
    refine ⟨r, e, ?_⟩
    exact wpAny_pure ⟨_, rfl, q⟩
  simp only [richCompare, cmpInfo_NotEq, oneThing_ref]
  refine wpAny_holding (wpAny_bind (wpAny_cRoomFor (Nat.lt_of_succ_lt hu) ?_))
  refine wpAny_bind (I.type.here (wpAny_bind (hb.here ?_)))
  split
  · rename_i q
    have e : PySem.W.subIn K tb (.ref C) = some false := by
      have hn' := hn
      unfold PySem.W.notFirst at hn'
      rcases Bool.or_eq_true_iff.mp hn' with e | e
      · rw [beq_iff_eq.mp e] at q; simp at q
      · exact beq_iff_eq.mp e
    refine wpAny_bind ((PySem.W.looks_subIn X e).here ?_)
    simp only [Bool.false_eq_true, if_false]
    refine wpAny_bind (wpAny_mono one (fun r s' z => ?_) fun _ _ z => z)
    obtain ⟨v, e, hq⟩ := z
    subst e
    exact wpAny_pure hq
  · refine wpAny_bind (wpAny_pure ?_)
    simp only [Bool.false_eq_true, if_false]
    refine wpAny_bind (wpAny_mono one (fun r s' z => ?_) fun _ _ z => z)
    obtain ⟨v, e, hq⟩ := z
    subst e
    exact wpAny_pure hq
end
end HN
namespace Hw
open PySem L2 PyProof.Rows
/-- x == y (or !=) where x has a class of the text with its own == -/
def rEqU (K : PySem.W.Frag) (C : Addr) (sp : Sp) (E : XK) (neg : Bool) : R2 := fun x y H Q => ∃ a dx fs t, x = .ref a ∧ H a = some (.ins C dx fs) ∧ TyX K H y t ∧ PySem.W.notFirst K C t = true ∧ sp [.ref a, y] H (fun v H' => ∃ b, v = .bl b ∧ Q (.bl (b != neg)) H') E
/-- the class's own comparison -/
structure EqM (K : PySem.W.Frag) (C f : Addr) : Prop where
  eq : PySem.W.findIn K (.ref C) "__eq__" = some (some (.ref f))
  fn : PySem.W.isFn K (.ref f) = true
  ne : PySem.W.findIn K (.ref C) "__ne__" = some (some (.builtin "object.__ne__"))
  obj : PySem.W.mroIn K C (.type "object") = some true
section
variable {X : Cx} {n : Nat} {CX : CXT} {C f : Addr} {fd : FuncData} {ps : List Str} {sp : Sp} {E : XK}
theorem own_run (F : FnOk X.prog X.w X.K X.mg X.base CX n f fd ps sp) (hb : Binds X.K fd ps []) (hx : Passes CX X E) {A : Around} (hr : Room n A) (hfr : A.frames = X.A.frames) {pins : List (Addr × Obj)} {σ : L2.St} {H : Hp} {s : Shared} {vs : List V} {us : List Value} (I : Inv X pins σ H s) (r2 : Vals vs us) {R : VK}
    (hsp : sp vs H R E) {QQ : Value → Shared → Prop} (hq : ∀ z u H' s', Inv X pins σ H' s' → RelV z u → R z H' → QQ u s') : wpAny (model X.prog X.w) A (call (.ref f) us) QQ X.xe s := by
  have e0 : Env0 X.prog X.w X.K X.mg X.base A X.stack s H := by
    have e := I.env0
    exact ⟨by rw [hfr]; exact e.frames, e.mod, e.bs, e.bsz, e.funs, e.frf, e.hok, e.bare⟩
  have hl := F.len _ _ _ _ hsp
  have hl2 : us.length = vs.length := (Vals.length r2).symm
  refine wpAny_call (codeAny_mono (F.run A X.stack s H ⟨us, []⟩ us vs _ E hr e0 (by
    have := hb s us I.kIn (by simpa [hl2] using hl)
    simpa using this) r2 hsp) fun r s' z => ?_)
  cases r with
  | error e => exact hx pins σ H s e s' I z
  | ok fl =>
    cases fl with
    | ret u =>
      obtain ⟨z, H', I', rz, q⟩ := I.after z
      exact hq z u H' s' I' rz q
    | next => exact False.elim z
    | brk => exact False.elim z
    | cont => exact False.elim z
theorem eqU_run (F : FnOk X.prog X.w X.K X.mg X.base CX n f fd ps sp) (hb : Binds X.K fd ps []) (hx : Passes CX X E) {A : Around} (hr : Room n A) (hfr : A.frames = X.A.frames) {pins : List (Addr × Obj)} {σ : L2.St} {H : Hp} {s : Shared} {a : Addr} {y : V} {v : Value} (I : Inv X pins σ H s) (ry : RelV y v) {R : Bool → Hp → Prop}
    (hsp : sp [.ref a, y] H (fun z H' => ∃ b, z = .bl b ∧ R b H') E) {QQ : Value → Shared → Prop} (hq : ∀ b H' s', Inv X pins σ H' s' → R b H' → QQ (.bool b) s') : wpAny (model X.prog X.w) A (call (.ref f) [.ref a, v]) QQ X.xe s :=
  own_run F hb hx hr hfr I (.cons (show RelV (V.ref a) (Value.ref a) from rfl) (.cons ry .nil)) hsp fun z u H' s' I' rz ⟨b, ez, q⟩ => by
    subst ez
    cases rz
    exact hq b H' s' I' q
/-- len of an object with its own __len__ -/
theorem call_lenU (F : FnOk X.prog X.w X.K X.mg X.base CX n f fd ps sp) (hb : Binds X.K fd ps []) (hx : Passes CX X E) (hs : PySem.W.findIn X.K (.ref C) "__len__" = some (some (.ref f))) (hf : PySem.W.isFn X.K (.ref f) = true) (hr : Room (n + 1) X.A) :
    CallR X (.builtin "len") (fun xs H Q => ∃ a dx fs, xs = [V.ref a] ∧ H a = some (.ins C dx fs) ∧ sp [.ref a] H (fun v H' => ∃ k : Nat, v = .int k ∧ k ≤ 1000000 ∧ Q (.int k) H') E) := by
  intro pins s σ H xs us Q I r h
  obtain ⟨a, dx, fs, rfl, ha, hsp⟩ := h
  obtain ⟨u, rfl, ru⟩ := vals1 r
  cases ru
  obtain ⟨m1, J, _⟩ := ins_get I.hok ha
  obtain ⟨od, J, _⟩ := J.look
  obtain ⟨m, hF⟩ := I.fr
  refine PySem.W.len_K hF I.ok.mod.kin J hs hf ?_
  refine own_run F hb hx hr.in1 rfl I (.cons (show RelV (V.ref a) (Value.ref a) from rfl) .nil) hsp fun z u H' s' I' rz q => ?_
  obtain ⟨k, ez, hk, q⟩ := q
  subst ez
  obtain ⟨t, rfl⟩ := rz
  exact ⟨⟨by omega, by have : (2 : Int) ^ 63 = 9223372036854775808 := by decide
                       omega⟩, .int k, H', I'.tok _, ⟨_, rfl⟩, q⟩
theorem op_eqU (F : FnOk X.prog X.w X.K X.mg X.base CX n f fd ps sp) (hb : Binds X.K fd ps []) (hx : Passes CX X E) (M : EqM X.K C f) (hr : Room n X.A) : OpR X (compareOp .Eq) (rEqU X.K C sp E false) := by
  intro pins s σ H x y v u Q I rx ry hq
  obtain ⟨a, dx, fs, t, rfl, ha, ty, nf, hsp⟩ := hq
  cases rx
  obtain ⟨m1, J, _⟩ := ins_get I.hok ha
  obtain ⟨od, J, _⟩ := J.look
  obtain ⟨m, hF⟩ := I.fr
  obtain ⟨Pk, Z, pk, _⟩ := kit_of I ry ty
  refine PySem.W.cmp_K (op := .Eq) (tb := t) hr.units0 hF I.ok.mod.kin J (Z.ty _ _ I.kIn pk) nf M.eq M.fn ?_
  exact eqU_run F hb hx hr rfl I ry hsp fun b H' s' I' q => ⟨.bl b, H', I', rfl, by simpa using q⟩
theorem op_neU (F : FnOk X.prog X.w X.K X.mg X.base CX n f fd ps sp) (hb : Binds X.K fd ps []) (hx : Passes CX X E) (M : EqM X.K C f) (hr : Room (n + 1) X.A) : OpR X (compareOp .NotEq) (rEqU X.K C sp E true) := by
  intro pins s σ H x y v u Q I rx ry hq
  obtain ⟨a, dx, fs, t, rfl, ha, ty, nf, hsp⟩ := hq
  cases rx
  obtain ⟨m1, J, _⟩ := ins_get I.hok ha
  obtain ⟨od, J, _⟩ := J.look
  obtain ⟨Pk, Z, pk, _⟩ := kit_of I ry ty
  refine HN.rich_ne (tb := t) (by have := hr.units; omega) I.kIn J (Z.ty _ _ I.kIn pk) nf M.obj M.eq M.fn M.ne ?_
  exact eqU_run F hb hx hr.in1 rfl I ry hsp fun b H' s' I' q => ⟨b, rfl, ⟨.bl (!b), H', I', rfl, by cases b <;> simpa using q⟩⟩
end
end Hw

set_option Elab.async false
set_option linter.all false
set_option maxRecDepth 100000
set_option maxHeartbeats 4000000
namespace Hw
open PySem L2 PyProof.Rows
def topS (i : Nat) : Stmt := PySem.Challenge.pw_healedwebs_k08_first_deeds_elder_ties_an.main.body.getD i (.Pass ⟨0, 0, 0, 0⟩)
abbrev sPot : Stmt := topS 32
abbrev sTake : Stmt := topS 33
abbrev sOf : Stmt := topS 34
abbrev sCells : Stmt := topS 36
section
variable {P : Program} {w : World} {K : PySem.W.Frag} {mg : Str → Option Value} {base : Heap}
theorem scPot : FnScope ["script", "place", "cell", "own", "small"] ["script", "place"] (defScope sPot) := ⟨rfl, rfl, rfl, by decide +kernel, rfl, by decide +kernel, by decide +kernel⟩
theorem scTake : FnScope ["pot", "upto", "digit", "prime", "blend"] ["pot", "upto"] (defScope sTake) := ⟨rfl, rfl, rfl, by decide +kernel, rfl, by decide +kernel, by decide +kernel⟩
theorem scOf : FnScope ["pot", "some"] ["pot", "some"] (defScope sOf) := ⟨rfl, rfl, rfl, by decide +kernel, rfl, by decide +kernel, by decide +kernel⟩
theorem scCells : FnScope ["script", "most"] ["script", "most"] (defScope sCells) := ⟨rfl, rfl, rfl, by decide +kernel, rfl, by decide +kernel, by decide +kernel⟩
theorem b01 (b : Prop) [Decidable b] : -(2 ^ 64) < (if b then (1 : Int) else 0) ∧ (if b then (1 : Int) else 0) < 2 ^ 64 := by
  split <;> exact ⟨by decide, by decide⟩
/-- names of the built-ins -/
structure Blt (mg : Str → Option Value) : Prop where
  len : mg "len" = none
  sum : mg "sum" = none
  int : mg "int" = none
  abs : mg "abs" = none
  list : mg "list" = none
  range : mg "range" = none
  max : mg "max" = none
  min : mg "min" = none
theorem ok_pot {f : Addr} {fd : FuncData} {k : Nat} (F : Fun K "_law_pot" "_law_pot" sPot f fd) (B : Blt mg) : FnOk P w K mg base CX0 (k + 1) f fd ["script", "place"] (spPot K) := by
  refine F.ok scPot (fun vs H Q E h => ?_) (fun cdv A outer s H vs Q E hr h => ?_)
  · obtain ⟨a, ns, i, rfl, _⟩ := h
    rfl
  · obtain ⟨a, ns, i, rfl, hS, hlen, h0, h1, q⟩ := h
    refine ⟨_, Evl.pss_cut (ps_set (i := 2) scPot.nd rfl (.inl rfl) (pe_ifExp (pt_cmpR op_lt (pv 1) (pe_callB call_len_seq (by rfl) B.len PySem.boot_len (pa_cons (pv 0) pa_nil)) (nomark _))
        (pe_ix ix_list (pv 0) (pv 1) (fun _ _ => rfl))
        (pe_op op_add (pe_op op_add (pe_op op_mod (pe_callB (cr_sum rfl) (by rfl) B.sum PyProof.Rows.boot_sum (pa_cons (pe_slice sl_list (pv 0) po_none (po_some pe_int)) pa_nil)) pe_int) (pe_op op_mul pe_int (pv 1))) pe_int)))
      (pss_cons (ps_set (i := 3) scPot.nd rfl (.inl rfl) (pe_op op_mul (pe_op op_mod (pe_callTy call_int1 (by rfl) B.int PyProof.Rows.boot_int (pa_cons (pe_callB call_abs (by rfl) B.abs PyProof.Rows.boot_abs (pa_cons (pv 2) pa_nil)) pa_nil))
          (pe_op op_powW (pe_op op_powW pe_int pe_int) pe_int))
          (pe_callTy call_int1 (by rfl) B.int PyProof.Rows.boot_int (pa_cons (pe_cmpR op_ge (pe_callB call_abs (by rfl) B.abs PyProof.Rows.boot_abs (pa_cons (pv 2) pa_nil)) (pe_op op_powW pe_int pe_int) (nomark _)) pa_nil))))
      (pss_cons (ps_set (i := 4) scPot.nd rfl (.inl rfl) (pe_op op_mod (pe_callTy call_int1 (by rfl) B.int PyProof.Rows.boot_int (pa_cons (pv 2) pa_nil)) pe_int))
      (pss_one (ps_ret (pe_lst (pa_cons (pv 3) (pa_cons (pe_op op_mod (pe_callTy call_int1 (by rfl) B.int PyProof.Rows.boot_int (pa_cons
        (pe_op op_add (pe_op op_add (pe_op op_mul (pv 4) pe_int) (pe_op op_mul (pe_op op_mul pe_int (pv 1)) (pv 1))) pe_int) pa_nil)) pe_int) (pa_cons pe_int pa_nil)))))))), ?_⟩
    -- the cell: any int, whatever the way
    refine ⟨fun σ' H' => ∃ c : Int, σ' = [some (.ref a), some (.int i), some (.int c), none, none] ∧ Same H H', ?_, ?_⟩
    · refine ⟨_, rfl, .ref a, rfl, a, ns.map V.int, rfl, .inl hS, _, _, rfl, rfl, _, rfl, ite2 (fun e => ?_) (fun e => ?_)⟩
      · have e' : i < (ns.map V.int).length := of_decide_eq_true e
        obtain ⟨j, rfl⟩ : ∃ j : Nat, i = (j : Int) := ⟨i.toNat, by omega⟩
        have hj : j < ns.length := by rw [List.length_map] at e'; omega
        refine ⟨.ref a, rfl, .int (j : Int), rfl, a, _, _, .int ns[j], rfl, rfl, hS, atI_nat (j := j) ?_, ns[j], rfl, Same.refl H⟩
        rw [List.getElem?_map, List.getElem?_eq_getElem hj]; rfl
      · refine ⟨.ref a, rfl, 1, rfl, a, _, rfl, hS, fun c nc => ?_⟩
        have s1 : Same H (upd H c (.lst (cutV (ns.map V.int) none (some 1)))) := same_upd nc
        have ec : cutV (ns.map V.int) none (some 1) = (ns.take 1).map V.int := by
          unfold cutV
          rw [show HT.sIx (ns.map V.int).length (ns.map V.int).length (some 1) = min 1 (ns.map V.int).length from HT.sIx_nat _ _ 1, HT.sIx_none]
          rw [List.length_map, List.drop_zero, Nat.sub_zero, List.map_take]
          rw [List.take_eq_take_iff, List.length_map]; omega
        refine ⟨c, ns.take 1, rfl, sql_of (by rw [upd_same, ec]), ?_⟩
        refine ⟨_, _, rfl, rfl, (by show (0 : Int) < 1000003; decide), .int i, rfl, _, _, rfl, rfl, .inl ⟨by decide, by decide⟩, _, _, rfl, rfl, _, _, rfl, rfl, _, rfl, s1⟩
    · rintro σ' H1 ⟨c, rfl, s1⟩
      refine ⟨.int c, rfl, c, rfl, .inl ⟨_, rfl, _, _, rfl, rfl, ⟨by decide, by decide +kernel⟩, _, _, rfl, rfl, ⟨by decide, by decide +kernel⟩, _, _, rfl, rfl, (by show (0 : Int) < ((10 : Int) ^ Int.toNat 60) ^ Int.toNat 5; decide +kernel), ?_⟩⟩
      refine ⟨.int c, rfl, c, rfl, _, _, rfl, rfl, ⟨by decide, by decide +kernel⟩, _, _, rfl, rfl, .inr ⟨_, rfl, _, _, rfl, rfl, .inr ?_, ?_⟩⟩
      · exact b01 _
      have own0 : ∀ (x m : Int) (b : Prop) [Decidable b], m ≠ 0 → 0 ≤ x % m * (if b then 1 else 0) := fun x m b _ hm => Int.mul_nonneg (Int.emod_nonneg _ hm) (by split <;> decide)
      refine ⟨.int c, rfl, .inl ⟨_, rfl, _, _, rfl, rfl, (by show (0 : Int) < 2305843009213693951; decide), ?_⟩⟩
      have e0 := Int.emod_nonneg c (show (2305843009213693951 : Int) ≠ 0 by decide)
      have e1 := Int.emod_lt_of_pos c (show (0 : Int) < 2305843009213693951 by decide)
      refine ⟨_, rfl, .int (c % 2305843009213693951), rfl, _, _, rfl, rfl, .inl ⟨by omega, by omega⟩, .int i, rfl, _, _, rfl, rfl, .inl ⟨by decide, by decide⟩, .int i, rfl, _, _, rfl, rfl, .inr ⟨by omega, by omega⟩,
        _, _, rfl, rfl, _, _, rfl, rfl, .inl ⟨_, rfl, _, _, rfl, rfl, (by show (0 : Int) < 2305843009213693921; decide), by show 3 ≤ sizeLine; decide, fun p hp => ?_⟩⟩
      refine q p _ (s1.trans (same_upd hp)) (s1.free hp) ⟨⟨_, _, _, upd_same, own0 _ _ _ (by decide +kernel), Int.emod_nonneg _ (by decide), ?_, by decide, by decide⟩⟩
      exact Int.lt_of_lt_of_le (Int.emod_lt_of_pos _ (by decide)) (by decide)
theorem ok_take {f : Addr} {fd : FuncData} {k : Nat} (F : Fun K "_law_take" "_law_take" sTake f fd) (B : Blt mg) : FnOk P w K mg base CX0 (k + 1) f fd ["pot", "upto"] spTake := by
  refine F.ok scTake (fun vs H Q E h => ?_) (fun cdv A outer s H vs Q E hr h => ?_)
  · obtain ⟨a, u, N, rfl, _⟩ := h
    rfl
  · obtain ⟨a, u, N, rfl, hP, hN, hu0, hu1, q⟩ := h
    refine ⟨_, pss_cons (ps_if (pt_cmpR op_gt (pe_ix ix_list (pv 0) pe_int (fun _ _ => rfl)) pe_int (nomark _))
        (pss_cons (ps_set (i := 2) scTake.nd rfl (.inl rfl) (pe_op op_mod (pe_callTy call_int1 (by rfl) B.int PyProof.Rows.boot_int (pa_cons (pe_ix ix_list (pv 0) pe_int (fun _ _ => rfl)) pa_nil)) (pv 1)))
        (pss_cons (ps_asg (pe_op op_fdiv (pe_ix ix_list (pv 0) pe_int (fun _ _ => rfl)) (pv 1)) (pg_sub (pv 0) pe_int set_list))
        (pss_one (ps_ret (pv 2))))) pss_nil)
      (pss_cons (ps_asg (pe_op op_add (pe_ix ix_list (pv 0) pe_int (fun _ _ => rfl)) pe_int) (pg_sub (pv 0) pe_int set_list))
      (pss_cons (ps_set (i := 3) scTake.nd rfl (.inl rfl) (pe_ix ix_list (pe_lst (pa_cons pe_int (pa_cons pe_int (pa_cons pe_int (pa_cons pe_int (pa_cons pe_int pa_nil))))))
          (pe_op op_mod (pe_callTy call_int1 (by rfl) B.int PyProof.Rows.boot_int (pa_cons (pe_ix ix_list (pv 0) pe_int (fun _ _ => rfl)) pa_nil)) pe_int) (fun _ _ => rfl)))
      (pss_cons (ps_set (i := 4) scTake.nd rfl (.inl rfl) (pe_op op_mod (pe_callTy call_int1 (by rfl) B.int PyProof.Rows.boot_int (pa_cons (pe_op op_powW (pe_callTy call_int1 (by rfl) B.int PyProof.Rows.boot_int (pa_cons
          (pe_op op_add (pe_op op_add (pe_ix ix_list (pv 0) pe_int (fun _ _ => rfl)) (pe_op op_mul (pe_op op_mul pe_int (pe_ix ix_list (pv 0) pe_int (fun _ _ => rfl))) (pe_ix ix_list (pv 0) pe_int (fun _ _ => rfl)))) pe_int) pa_nil)) pe_int) pa_nil)) (pv 3)))
      (pss_cons (ps_set (i := 4) scTake.nd rfl (.inl rfl) (pe_op op_mod (pe_callTy call_int1 (by rfl) B.int PyProof.Rows.boot_int (pa_cons (pe_op op_mul (pv 4) (pe_op op_add (pe_op op_mod (pe_callTy call_int1 (by rfl) B.int PyProof.Rows.boot_int (pa_cons (pv 4) pa_nil)) pe_int)
          (pe_op op_mul pe_int (pe_ix ix_list (pv 0) pe_int (fun _ _ => rfl))))) pa_nil)) pe_int))
      (pss_one (ps_ret (pe_op op_mod (pe_callTy call_int1 (by rfl) B.int PyProof.Rows.boot_int (pa_cons (pe_op op_fdiv (pv 4) pe_int) pa_nil)) (pv 1)))))))), ?_⟩
    obtain ⟨x, y, z, e, hx, hy, hy1, hz, hz1⟩ := hP.ex
    have hS : SqL K H a [.int x, .int y, .int z] := sql_of e
    refine ⟨.ref a, rfl, a, _, 0, .int x, rfl, rfl, hS, rfl, _, _, rfl, rfl, _, rfl, ite2 (fun c => ?_) (fun c => ?_)⟩
    · have c' : 0 < x := of_decide_eq_true c
      refine ⟨.ref a, rfl, a, _, 0, .int x, rfl, rfl, hS, rfl, .inl ⟨x, rfl, .int u, rfl, _, _, rfl, rfl, hu0, ?_⟩⟩
      refine ⟨.ref a, rfl, a, _, 0, .int x, rfl, rfl, hS, rfl, .int u, rfl, _, _, rfl, rfl, ⟨hu0, by omega⟩, .ref a, rfl, a, _, 0, 0, rfl, rfl, e, rfl, ?_⟩
      refine ⟨.int (x % u), rfl, ?_⟩
      exact q _ _ (Int.emod_nonneg _ (by omega)) (Int.emod_lt_of_pos _ hu0) ((SameX.refl a H).put) ⟨⟨_, y, z, upd_same, Int.ediv_nonneg hx (by omega), hy, hy1, hz, by omega⟩⟩
    · refine ⟨.ref a, rfl, a, _, 2, .int z, rfl, rfl, hS, rfl, _, _, rfl, rfl, .ref a, rfl, a, _, 2, 2, rfl, rfl, e, rfl, ?_⟩
      have e2 : upd H a (.lst ([V.int x, .int y, .int z].set 2 (.int (z + 1)))) a = some (.lst [.int x, .int y, .int (z + 1)]) := upd_same
      generalize hH2 : upd H a (.lst ([V.int x, .int y, .int z].set 2 (.int (z + 1)))) = H2 at e2 ⊢
      have s2 : SameX a H H2 := by rw [← hH2]; exact (SameX.refl a H).put
      refine ⟨by show 5 ≤ sizeLine; decide, fun p hp => ?_⟩
      have s3 : Same H2 (upd H2 p (.lst [.int 2147483647, .int 2147483629, .int 2147483587, .int 2147483579, .int 2147483563])) := same_upd hp
      have hp1 : (upd H2 p (.lst [.int 2147483647, .int 2147483629, .int 2147483587, .int 2147483579, .int 2147483563])) p = some (.lst [.int 2147483647, .int 2147483629, .int 2147483587, .int 2147483579, .int 2147483563]) := upd_same
      have e3 := s3 _ _ e2
      have s4 := s2.trans (.of s3)
      generalize (upd H2 p (.lst [.int 2147483647, .int 2147483629, .int 2147483587, .int 2147483579, .int 2147483563])) = H3 at s3 hp1 e3 s4 ⊢
      have hS3 : SqL K H3 a [.int x, .int y, .int (z + 1)] := sql_of e3
      refine ⟨.ref a, rfl, a, _, 2, .int (z + 1), rfl, rfl, hS3, rfl, .inl ⟨_, rfl, _, _, rfl, rfl, (by show (0 : Int) < 5; decide), ?_⟩⟩
      have m0 := Int.emod_nonneg (z + 1) (show (5 : Int) ≠ 0 by decide)
      have m1 := Int.emod_lt_of_pos (z + 1) (show (0 : Int) < 5 by decide)
      obtain ⟨pr, hpr, hp0, hp2⟩ : ∃ pr : Int, atI [V.int 2147483647, .int 2147483629, .int 2147483587, .int 2147483579, .int 2147483563] ((z + 1) % 5) = some (.int pr) ∧ 0 < pr ∧ pr < 2 ^ 31 := by
        generalize (z + 1) % 5 = m at m0 m1
        obtain h | h | h | h | h : m = 0 ∨ m = 1 ∨ m = 2 ∨ m = 3 ∨ m = 4 := by omega
        all_goals (subst h; exact ⟨_, rfl, by decide, by decide⟩)
      refine ⟨p, _, _, .int pr, rfl, rfl, sql_of hp1, hpr, ?_⟩
      -- blend
      refine ⟨.ref a, rfl, a, _, 1, .int y, rfl, rfl, hS3, rfl, .ref a, rfl, a, _, 2, .int (z + 1), rfl, rfl, hS3, rfl, _, _, rfl, rfl, .inl ⟨by decide, by decide⟩,
        .ref a, rfl, a, _, 2, .int (z + 1), rfl, rfl, hS3, rfl, _, _, rfl, rfl, .inr ⟨by omega, by omega⟩, _, _, rfl, rfl, _, _, rfl, rfl, .inl ⟨_, rfl, _, _, rfl, rfl, ⟨by decide, ?_⟩, .inl ⟨_, rfl, .int pr, rfl, _, _, rfl, rfl, hp0, ?_⟩⟩⟩
      · have w0 : 0 ≤ (z + 1) * (z + 1) := Int.mul_nonneg (by omega) (by omega)
        have w1 : (z + 1) * (z + 1) ≤ 1073741824 * 1073741824 := Int.mul_le_mul (by omega) (by omega) (by omega) (by omega)
        have hb : Builtin.Int.intBits (y + 98299 * (z + 1) * (z + 1) + 449) ≤ 100 := by
          refine bits_nat ?_
          rw [Int.mul_assoc]
          generalize (z + 1) * (z + 1) = ww at w0 w1
          omega
        omega
      generalize ((y + 98299 * (z + 1) * (z + 1) + 449) ^ Int.toNat 3) = big
      have b0 := Int.emod_nonneg big (show pr ≠ 0 by omega)
      have b1 := Int.emod_lt_of_pos big hp0
      refine ⟨.int (big % pr), rfl, .int (big % pr), rfl, .inl ⟨_, rfl, _, _, rfl, rfl, (by show (0 : Int) < 10067; decide), .ref a, rfl, a, _, 2, .int (z + 1), rfl, rfl, hS3, rfl, _, _, rfl, rfl, .inl ⟨by decide, by decide⟩, _, _, rfl, rfl,
        _, _, rfl, rfl, .inl ⟨by omega, by omega⟩, .inl ⟨_, rfl, _, _, rfl, rfl, (by show (0 : Int) < 2305843009213693907; decide), ?_⟩⟩⟩
      refine ⟨_, rfl, _, _, rfl, rfl, ⟨by decide, by decide⟩, .inl ⟨_, rfl, .int u, rfl, _, _, rfl, rfl, hu0, ?_⟩⟩
      exact q _ _ (Int.emod_nonneg _ (by omega)) (Int.emod_lt_of_pos _ hu0) s4 ⟨⟨x, y, z + 1, e3, hx, hy, hy1, by omega, by omega⟩⟩
theorem ok_of {f fT : Addr} {fd fdT : FuncData} {k : Nat} (F : Fun K "_law_of" "_law_of" sOf f fd) (B : Blt mg) (GT : FnOk P w K mg base CX0 k fT fdT ["pot", "upto"] spTake) (gT : mg "_law_take" = some (.ref fT)) (kT : PySem.W.keepIn K (.ref fT) = true) (bT : Binds K fdT ["pot", "upto"] []) :
    FnOk P w K mg base CX0 (k + 1) f fd ["pot", "some"] (spOf K) := by
  refine F.ok scOf (fun vs H Q E h => ?_) (fun cdv A outer s H vs Q E hr h => ?_)
  · obtain ⟨a, b, xs, N, rfl, _⟩ := h
    rfl
  · obtain ⟨a, b, xs, N, rfl, hP, hN, hS, hab, h0, h1, q⟩ := h
    refine ⟨_, pss_one (ps_ret (pe_ix ix_list (pv 1) (pe_call GT hr (by rfl) gT kT bT .nil pass0 (pa_cons (pv 0) (pa_cons (pe_callB call_len_seq (by rfl) B.len PySem.boot_len (pa_cons (pv 1) pa_nil)) pa_nil))) (fun _ _ => rfl))), ?_⟩
    refine ⟨.ref b, rfl, .ref a, rfl, .ref b, rfl, b, xs, rfl, .inl hS, a, (xs.length : Int), N, rfl, hP, hN, by omega, by omega, fun r H' r0 r1 sx hP' => ?_⟩
    have hj : r.toNat < xs.length := by omega
    have hS' : SqL K H' b xs := by
      rcases hS with (h | ⟨o, h⟩) | h
      · exact .inl (.inl (sx _ _ (Ne.symm hab) h))
      · exact .inl (.inr ⟨o, sx _ _ (Ne.symm hab) h⟩)
      · exact .inr h
    refine ⟨b, xs, r, xs[r.toNat], rfl, rfl, hS', ?_, q r.toNat _ H' (List.getElem?_eq_getElem hj) sx hP'⟩
    exact at_of (j := r.toNat) (by omega) (List.getElem?_eq_getElem hj)
theorem ok_cells {f : Addr} {fd : FuncData} {k : Nat} (F : Fun K "_law_cells" "_law_cells" sCells f fd) (B : Blt mg) : FnOk P w K mg base CX0 (k + 1) f fd ["script", "most"] (spCells K) := by
  refine F.ok scCells (fun vs H Q E h => ?_) (fun cdv A outer s H vs Q E hr h => ?_)
  · obtain ⟨a, xs, m, rfl, _⟩ := h
    rfl
  · obtain ⟨a, xs, m, rfl, hS, hl, h0, h1, q⟩ := h
    refine ⟨_, pss_one (ps_ret (pe_listRg rfl (by rfl) B.list (prg_1 (by rfl) B.range (pe_callB (call_max2 rfl) (by rfl) B.max PyProof.Rows.boot_max (pa_cons pe_int (pa_cons
      (pe_callB (call_min2 rfl) (by rfl) B.min PyProof.Rows.boot_min (pa_cons (pv 1) (pa_cons (pe_callB call_len_seq (by rfl) B.len PySem.boot_len (pa_cons (pv 0) pa_nil)) pa_nil))) pa_nil)))))), ?_⟩
    refine ⟨.int m, rfl, .ref a, rfl, a, xs, rfl, .inl hS, _, _, rfl, _, _, rfl, _, rfl, ?_⟩
    have key : ∀ v : Int, 0 < v → v ≤ m → v ≤ 1000 → RgOk 0 v ∧ ∀ p, H p = none → Q (.ref p) (upd H p (.lst (rgV 0 v))) := fun v v0 v1 v2 => ⟨.of_le (by omega) (by omega) (by omega) (by omega), fun p hp => by
      refine q v.toNat p _ (by omega) (by omega) (same_upd hp) hp ?_
      rw [upd_same]
      unfold rgV
      rw [Int.sub_zero]
      refine congrArg (fun l => some (HO.lst l)) (List.map_congr_left fun i _ => ?_)
      rw [Int.zero_add]⟩
    refine key _ ?_ ?_ ?_
    all_goals (repeat' split) <;> omega
end
end Hw

set_option Elab.async false
set_option linter.all false
set_option maxRecDepth 100000
namespace Hw
open PySem L2 PyProof.Rows
/-! texts as lists of codes -/
def SL (l : List Nat) : Str := ⟨l.toArray⟩
theorem SL_cps (l : List Nat) : (SL l).cps.toList = l := rfl
theorem SL_of (z : Str) : SL z.cps.toList = z := by obtain ⟨a⟩ := z; rfl
theorem str_ext {x y : Str} (h : x.cps.toList = y.cps.toList) : x = y := by rw [← SL_of x, ← SL_of y, h]
theorem SL_len (l : List Nat) : (SL l).length = l.length := by show l.toArray.size = l.length; simp
theorem len_cps (z : Str) : z.length = z.cps.toList.length := by obtain ⟨a⟩ := z; simp [Str.length]
theorem app_cps (x y : Str) : (x ++ y).cps.toList = x.cps.toList ++ y.cps.toList := by
  show (x.cps ++ y.cps).toList = _
  simp
theorem app_len (x y : Str) : (x ++ y).length = x.length + y.length := by rw [len_cps, len_cps, len_cps, app_cps, List.length_append]
theorem sjoin_cps0 : ∀ (cs : List Str), (Str.join (Str.ofString "") cs).cps.toList = cs.flatMap fun z => z.cps.toList
  | [] => rfl
  | [x] => by simp [Str.join]
  | x :: y :: r => by
    have ih := sjoin_cps0 (y :: r)
    have e : Str.join (Str.ofString "") (x :: y :: r) = x ++ Str.ofString "" ++ Str.join (Str.ofString "") (y :: r) := rfl
    rw [e, app_cps, app_cps, ih]
    show x.cps.toList ++ [] ++ _ = _
    rw [List.append_nil]; rfl
theorem join_cps0 (cs : List Str) : (Txt.join (Str.ofString "") cs).cps.toList = cs.flatMap fun z => z.cps.toList := by rw [TL.join_eq]; exact sjoin_cps0 cs
/-- a name: one to eight letters -/
def Nm (z : Str) : Prop := 1 ≤ z.length ∧ z.length ≤ 8 ∧ ∀ c ∈ z.cps.toList, 97 ≤ c ∧ c ≤ 122
instance (z : Str) : Decidable (Nm z) := by unfold Nm; exact inferInstance
/-- the words that are tried in the place of a word that is known -/
def cand (w : Str) : Nat → Str
  | 0 => w
  | k + 1 => SL ([97 + k / 26, 97 + k % 26] ++ w.cps.toList.drop 2)
theorem cand_drop (w : Str) : ∀ k, (cand w k).cps.toList.drop 2 = w.cps.toList.drop 2
  | 0 => rfl
  | k + 1 => by
    show (SL ([97 + k / 26, 97 + k % 26] ++ w.cps.toList.drop 2)).cps.toList.drop 2 = _
    rw [SL_cps]; rfl
theorem cand_nm {w : Str} (h : Nm w) {k : Nat} (hk : k ≤ 676) : Nm (cand w k) := by
  cases k with
  | zero => exact h
  | succ k =>
    obtain ⟨h1, h2, h3⟩ := h
    have e : (cand w (k + 1)).cps.toList = [97 + k / 26, 97 + k % 26] ++ w.cps.toList.drop 2 := SL_cps _
    have l : (cand w (k + 1)).length = 2 + (w.length - 2) := by
      rw [len_cps, e, List.length_append, List.length_drop, ← len_cps]; rfl
    refine ⟨by omega, by omega, fun c hc => ?_⟩
    rw [e] at hc
    rcases List.mem_append.mp hc with hc | hc
    · simp only [List.mem_cons, List.not_mem_nil, or_false] at hc
      rcases hc with rfl | rfl <;> omega
    · exact h3 c (List.mem_of_mem_drop hc)
theorem cand_inj {w : Str} {i j : Nat} (h : cand w (i + 1) = cand w (j + 1)) : i = j := by
  have e : ([97 + i / 26, 97 + i % 26] ++ w.cps.toList.drop 2) = ([97 + j / 26, 97 + j % 26] ++ w.cps.toList.drop 2) := by
    have z := congrArg (fun s : Str => s.cps.toList) h
    exact z
  injection e with e1 e2
  injection e2 with e2 e3
  omega
theorem sub_len {α : Type} [DecidableEq α] : ∀ {l m : List α}, l.Nodup → (∀ x ∈ l, x ∈ m) → l.length ≤ m.length
  | [], _, _, _ => Nat.zero_le _
  | a :: l, m, hn, hs => by
    obtain ⟨ha, hl⟩ := List.nodup_cons.mp hn
    have hm : a ∈ m := hs a List.mem_cons_self
    have ih := sub_len (m := m.erase a) hl fun x hx => by
      refine (List.mem_erase_of_ne ?_).mpr (hs x (List.mem_cons_of_mem _ hx))
      rintro rfl; exact ha hx
    have e := List.length_erase_of_mem hm
    have p : 0 < m.length := List.length_pos_of_mem hm
    rw [List.length_cons]; omega
theorem cand_few {w : Str} {ks : List Str} {k : Nat} (h : ∀ j, j < k → cand w j ∈ ks) : k ≤ ks.length + 1 := by
  cases k with
  | zero => omega
  | succ k =>
    have z := sub_len (l := (List.range k).map fun j => cand w (j + 1)) (m := ks) ?_ ?_
    · rw [List.length_map, List.length_range] at z; omega
    · rw [List.Nodup, List.pairwise_map]
      exact List.Pairwise.imp (fun {i j} hij e => hij (cand_inj e)) (List.nodup_range (n := k))
    · intro x hx
      obtain ⟨j, hj, rfl⟩ := List.mem_map.mp hx
      exact h (j + 1) (by have := List.mem_range.mp hj; omega)
def alpha : Str := Str.ofString "abcdefghijklmnopqrstuvwxyz"
theorem alpha_at : ∀ k, k < 26 → alpha.cps.toList[k]? = some (97 + k) := by decide +kernel
theorem alpha_mem : ∀ c ∈ alpha.cps.toList, 97 ≤ c ∧ c ≤ 122 := by decide +kernel
theorem alpha_len : alpha.length = 26 := by decide +kernel
theorem ones_join (cs : List Nat) : (Txt.join (Str.ofString "") (cs.map fun c => SL [c])).cps.toList = cs := by
  rw [join_cps0, List.flatMap_map]
  induction cs with
  | nil => rfl
  | cons c cs ih =>
    rw [List.flatMap_cons, ih]; rfl
end Hw

set_option Elab.async false
set_option linter.all false
set_option maxRecDepth 100000
set_option maxHeartbeats 4000000
namespace Hw
open PySem L2 PyProof.Rows
abbrev sNames : Stmt := topS 37
theorem valV_seen {ns : List Str} (w : Str) : valV (ns.map fun z => ((Sum.inr z : Key), V.bl true)) (Sum.inr w) = if w ∈ ns then some (V.bl true) else none := by
  induction ns with
  | nil => exact valV_nil
  | cons z ns ih =>
    rw [List.map_cons]
    by_cases h : z = w
    · subst h
      rw [valV_pos rfl, if_pos List.mem_cons_self]
    · rw [valV_neg (fun e => h (Sum.inr.inj e)), ih]
      by_cases hm : w ∈ ns
      · rw [if_pos hm, if_pos (List.mem_cons_of_mem _ hm)]
      · rw [if_neg hm, if_neg (fun e => by rcases List.mem_cons.mp e with rfl | e; exact h rfl; exact hm e)]
theorem rs_while {c : TT} {tb u : TS} {D : Ends} {σ : L2.St} {H : Hp} (Pv : L2.St → Hp → Prop) (μ : L2.St → Hp → Nat) (h0 : Pv σ H)
    (hs : ∀ σ H, Pv σ H → ∃ b : Bool, (∀ Q : Bool → Hp → Prop, Q b H → c σ H Q) ∧ (b = true → tb { D with nx := fun σ' H' => Pv σ' H' ∧ μ σ' H' < μ σ H, ct := fun σ' H' => Pv σ' H' ∧ μ σ' H' < μ σ H, bk := u D } σ H) ∧ (b = false → u D σ H)) :
    tSeq (tWhile c tb) u D σ H := by
  refine ⟨fun m σ H => m = μ σ H ∧ Pv σ H, ⟨_, rfl, h0⟩, ?_⟩
  rintro m σ H ⟨rfl, p⟩
  obtain ⟨b, hc, h1, h2⟩ := hs σ H p
  refine hc _ ?_
  cases b with
  | true => exact ⟨_, fun σ' H' ⟨p', l⟩ => ⟨_, l, rfl, p'⟩, h1 rfl⟩
  | false => exact h2 rfl
def at7 (σ : L2.St) : Nat := match σ[7]? with
  | some (some (V.int k)) => (400 - k).toNat
  | _ => 0
theorem cut2 (w : Str) : cutS w (some 2) none = SL (w.cps.toList.drop 2) := by
  unfold cutS SL
  rw [show HT.sIx w.length 0 (some 2) = min 2 w.length from HT.sIx_nat w.length 0 2, HT.sIx_none]
  refine congrArg (fun l : List Nat => (⟨l.toArray⟩ : Str)) ?_
  rw [len_cps]
  have e : w.cps.toList.drop (min 2 w.cps.toList.length) = w.cps.toList.drop 2 := by
    by_cases h : 2 ≤ w.cps.toList.length
    · rw [Nat.min_eq_left h]
    · rw [Nat.min_eq_right (by omega), List.drop_of_length_le (Nat.le_refl _), List.drop_of_length_le (by omega)]
  rw [e]
  refine List.take_of_length_le ?_
  rw [List.length_drop]; omega
theorem cand_succ (w : Str) (k : Nat) : (SL [97 + k / 26] ++ SL [97 + k % 26]) ++ cutS (cand w k) (some 2) none = cand w (k + 1) := by
  refine str_ext ?_
  rw [app_cps, app_cps, cut2, cand_drop]; rfl
def wordsD : List V := [.str "places", .str "tie", .str "come", .str "die", .str "ring", .str "all", .str "least"]
theorem words_nm : ∀ v ∈ wordsD, ∃ z, v = V.str z ∧ Nm z := by
  intro v hv
  simp only [wordsD, List.mem_cons, List.not_mem_nil, or_false] at hv
  rcases hv with rfl | rfl | rfl | rfl | rfl | rfl | rfl <;> exact ⟨_, rfl, by decide +kernel⟩
def fewD : List V := [.int 0, .int 1, .int 1, .int 2, .int 7]
theorem few_int : ∀ v ∈ fewD, ∃ x : Nat, v = V.int (x : Int) ∧ x ≤ 7 := by
  intro v hv
  simp only [fewD, List.mem_cons, List.not_mem_nil, or_false] at hv
  rcases hv with rfl | rfl | rfl | rfl | rfl
  · exact ⟨0, rfl, by decide⟩
  · exact ⟨1, rfl, by decide⟩
  · exact ⟨1, rfl, by decide⟩
  · exact ⟨2, rfl, by decide⟩
  · exact ⟨7, rfl, by decide⟩
/-- one of the signs of a text, or of the items of a list -/
def spOfS : Sp := fun vs H Q _ => ∃ (a : Addr) (z : Str) (N : Nat), vs = [.ref a, .str z] ∧ Pot H a N ∧ N < 1000000000 ∧ 0 < z.length ∧ z.length < 1000 ∧ ∀ c H', c ∈ z.cps.toList → SameX a H H' → Pot H' a (N + 1) → Q (.str (SL [c])) H'
def spOf2 (K : PySem.W.Frag) : Sp := fun vs H Q E => spOf K vs H Q E ∨ spOfS vs H Q E
/-- many unlike names -/
def spNames : Sp := fun vs H Q _ => ∃ (a : Addr) (m N : Nat), vs = [.ref a, .int m] ∧ Pot H a N ∧ N + 11 * m < 900000000 ∧ m ≤ 300 ∧
  ∀ p (ns : List Str) H', ns.length = m → ns.Nodup → (∀ z ∈ ns, Nm z) → SameX a H H' → H p = none → H' p = some (.lst (ns.map V.str)) → Pot H' a (N + 11 * m) → Q (.ref p) H'
section
variable {P : Program} {w : World} {K : PySem.W.Frag} {mg : Str → Option Value} {base : Heap}
theorem ok_of2 {f fT : Addr} {fd fdT : FuncData} {k : Nat} (F : Fun K "_law_of" "_law_of" sOf f fd) (B : Blt mg) (GT : FnOk P w K mg base CX0 k fT fdT ["pot", "upto"] spTake) (gT : mg "_law_take" = some (.ref fT)) (kT : PySem.W.keepIn K (.ref fT) = true) (bT : Binds K fdT ["pot", "upto"] []) :
    FnOk P w K mg base CX0 (k + 1) f fd ["pot", "some"] (spOf2 K) := by
  refine F.ok scOf (fun vs H Q E h => ?_) (fun cdv A outer s H vs Q E hr h => ?_)
  · rcases h with h | h
    · obtain ⟨a, b, xs, N, rfl, _⟩ := h
      rfl
    · obtain ⟨a, z, N, rfl, _⟩ := h
      rfl
  · refine ⟨_, pss_one (ps_ret (pe_ix (ix_list.or ix_str) (pv 1) (pe_call GT hr (by rfl) gT kT bT .nil pass0 (pa_cons (pv 0) (pa_cons (pe_callB (call_len_seq.or call_len_str) (by rfl) B.len PySem.boot_len (pa_cons (pv 1) pa_nil)) pa_nil))) (fun _ _ => rfl))), ?_⟩
    rcases h with ⟨a, b, xs, N, rfl, hP, hN, hS, hab, h0, h1, q⟩ | ⟨a, z, N, rfl, hP, hN, h0, h1, q⟩
    · refine ⟨.ref b, rfl, .ref a, rfl, .ref b, rfl, .inl ⟨b, xs, rfl, .inl hS, a, (xs.length : Int), N, rfl, hP, hN, by omega, by omega, fun r H' r0 r1 sx hP' => ?_⟩⟩
      have hj : r.toNat < xs.length := by omega
      have hS' : SqL K H' b xs := by
        rcases hS with (h | ⟨o, h⟩) | h
        · exact .inl (.inl (sx _ _ (Ne.symm hab) h))
        · exact .inl (.inr ⟨o, sx _ _ (Ne.symm hab) h⟩)
        · exact .inr h
      refine .inl ⟨b, xs, r, xs[r.toNat], rfl, rfl, hS', ?_, q r.toNat _ H' (List.getElem?_eq_getElem hj) sx hP'⟩
      exact at_of (j := r.toNat) (by omega) (List.getElem?_eq_getElem hj)
    · refine ⟨.str z, rfl, .ref a, rfl, .str z, rfl, .inr ⟨z, rfl, Nat.le_of_lt (small1000 (by omega)), a, (z.length : Int), N, rfl, hP, hN, by omega, by omega, fun r H' r0 r1 sx hP' => ?_⟩⟩
      have hj : r.toNat < z.cps.toList.length := by rw [← len_cps]; omega
      refine .inr ⟨z, r, z.cps.toList[r.toNat], rfl, rfl, Nat.le_of_lt (small1000 (by omega)), ?_, q _ H' (List.getElem_mem hj) sx hP'⟩
      have hh := atI_nat (List.getElem?_eq_getElem hj)
      rw [Int.toNat_of_nonneg r0] at hh
      exact hh
theorem lc_range {g : TG} {tt : TT} {te : TE} {vs : List Nat} {σ : L2.St} {H1 : Hp} {D : Addr} {Qd : Hp → Prop} (n : Nat) (Pv : Nat → Hp → Prop) (h0 : Pv 0 (upd H1 D (.lst [])))
    (hs : ∀ i H, i < n → Pv i H → g (.int (0 + (i : Int))) (wipe σ vs) H fun σ2 H2 => wipe σ2 vs = wipe σ vs ∧ tt σ2 H2 fun b H3 => if b = true then te σ2 H3 fun y H4 => ∃ acc, H4 D = some (.lst acc) ∧ acc.length < sizeLine ∧ Pv (i + 1) (upd H4 D (.lst (acc ++ [y]))) else Pv (i + 1) H3)
    (hd : ∀ H, Pv n H → Qd H) : ∃ W : Nat → Nat → Hp → Prop, (∃ m, W 0 m (upd H1 D (.lst []))) ∧ ∀ i m H, W i m H →
      ((Itr 0 n).stop i H ∧ Qd H) ∨ ((Itr 0 n).go i H ∧ ∃ Nx : Hp → Prop, (∀ H', Nx H' → ∃ m', m' < m ∧ W (i + 1) m' H') ∧ ∀ x H', (Itr 0 n).yld i H x H' → g x (wipe σ vs) H' fun σ2 H2 => wipe σ2 vs = wipe σ vs ∧ tt σ2 H2 fun b H3 =>
        if b = true then te σ2 H3 fun y H4 => ∃ acc, H4 D = some (.lst acc) ∧ acc.length < sizeLine ∧ Nx (upd H4 D (.lst (acc ++ [y]))) else Nx H3) :=
  lc_it (walk_range (lo := 0) (n := n)) Pv h0 (fun _ _ _ _ => trivial) (fun i x H H' hi hp ⟨e1, e2⟩ => by subst e1 e2; exact hs i _ hi hp) hd
def nN : List Str := ["pot", "many", "signs", "found", "known", "lap", "word", "at", "sign"]
theorem scNames : FnScope ["pot", "many", "signs", "found", "known", "lap", "word", "at", "sign"] ["pot", "many"] (defScope sNames) := ⟨rfl, rfl, rfl, by decide +kernel, rfl, by decide +kernel, by decide +kernel⟩
theorem ok_names {f fT fO : Addr} {fd fdT fdO : FuncData} {k : Nat} (F : Fun K "_law_names" "_law_names" sNames f fd) (B : Blt mg) (GT : FnOk P w K mg base CX0 k fT fdT ["pot", "upto"] spTake) (gT : mg "_law_take" = some (.ref fT)) (kT : PySem.W.keepIn K (.ref fT) = true) (bT : Binds K fdT ["pot", "upto"] [])
    (GO : FnOk P w K mg base CX0 k fO fdO ["pot", "some"] (spOf2 K)) (gO : mg "_law_of" = some (.ref fO)) (kO : PySem.W.keepIn K (.ref fO) = true) (bO : Binds K fdO ["pot", "some"] []) :
    FnOk P w K mg base CX0 (k + 1) f fd ["pot", "many"] spNames := by
  refine F.ok scNames (fun vs H Q E h => ?_) (fun cdv A outer s H vs Q E hr h => ?_)
  · obtain ⟨a, m, N, rfl, _⟩ := h
    rfl
  · obtain ⟨a, m, N, rfl, hP, hN, hm, q⟩ := h
    have hu := hu_of hr
    refine ⟨_, pss_cons (ps_asg (pe_tup (pa_cons pe_str (pa_cons (pe_lst pa_nil) (pa_cons pe_dnewK pa_nil)))) (pg_tup rfl (pgs_cons (pg_name (i := 2) scNames.nd rfl (.inr rfl)) (pgs_cons (pg_name (i := 3) scNames.nd rfl (.inl rfl)) (pgs_cons (pg_name (i := 4) scNames.nd rfl (.inl rfl)) pgs_nil)))))
      (pss_cons (ps_for PassesOwn.never rfl (pi_range1 (by rfl) B.range (pa_cons (pv 1) pa_nil)) (pg_name (i := 5) scNames.nd rfl (.inl rfl))
        (pss_cons (ps_set (i := 6) scNames.nd rfl (.inl rfl) (pe_join pe_str (pe_lc (own := [("sign", 8)]) (g := gName 8) (tt := tYes) rfl scNames.nd
            (pi_range1 (by rfl) B.range (pa_cons (pe_op op_add pe_int (pe_call GO hr (by rfl) gO kO bO .nil pass0 (pa_cons (pv 0) (pa_cons (pe_lst (pa_cons pe_int (pa_cons pe_int (pa_cons pe_int (pa_cons pe_int (pa_cons pe_int pa_nil)))))) pa_nil)))) pa_nil))
            (blkOk_by (N := ["pot", "many", "signs", "found", "known", "lap", "word", "at", "sign"]) (sc := defScope sNames) (by decide +kernel)) (fun _ _ _ _ _ => pg_name (i := 8) scNames.nd rfl (Or.inl rfl)) (fun _ _ _ _ _ => pts_nil)
            (fun _ _ _ _ _ => pe_call GO hr (by rfl) gO kO bO .nil pass0 (pa_cons (pv 0) (pa_cons (pv 2) pa_nil))))))
        (Evl.pss_cut (ps_if (pt_cmpR op_eq (pe_call GT hr (by rfl) gT kT bT .nil pass0 (pa_cons (pv 0) (pa_cons pe_int pa_nil))) pe_int (nomark _))
            (pss_one (ps_set (i := 6) scNames.nd rfl (.inl rfl) (pe_call GO hr (by rfl) gO kO bO .nil pass0 (pa_cons (pv 0) (pa_cons (pe_lst (pa_cons pe_str (pa_cons pe_str (pa_cons pe_str (pa_cons pe_str (pa_cons pe_str (pa_cons pe_str (pa_cons pe_str pa_nil)))))))) pa_nil))))) pss_nil)
        (pss_cons (ps_set (i := 7) scNames.nd rfl (.inl rfl) pe_int)
        (pss_cons (ps_while PassesOwn.never (pt_cmp (pc_din hu (pv 6) (pv 4)))
            (pss_one (ps_par (i := 6) (j := 7) rfl scNames.nd rfl rfl (by decide) rfl rfl (pa_cons (pe_op op_add_str (pe_op op_add_str (pe_ix ix_str (pv 2) (pe_op op_fdiv (pv 7) pe_int) (fun _ _ => rfl)) (pe_ix ix_str (pv 2) (pe_op op_mod (pv 7) pe_int) (fun _ _ => rfl))) (pe_slice sl_str (pv 6) (po_some pe_int) po_none))
              (pa_cons (pe_op op_add (pv 7) pe_int) pa_nil)) rfl)))
        (pss_cons (ps_dput hu (pv 4) (pv 6) pe_bl rfl)
        (pss_one (ps_expr (pe_bm PySem.F.plainAttrs_list PySem.F.slot_list_append PySem.F.type_list_append mt_append (pv 3) (pa_cons (pv 6) pa_nil))))))))))
      (pss_one (ps_ret (pv 3)))), ?_⟩
    have hPn := hP.some
    refine ⟨Nat.zero_le _, fun fo nfo d nd => ⟨by show 3 ≤ sizeLine; decide, fun tp ntp => ?_⟩⟩
    have nfd : fo ≠ d := ne_of_none upd_same nd
    have e1 : (upd (upd (upd H fo (.lst [])) d (.dK [])) tp (.tup [.str (Str.ofString "abcdefghijklmnopqrstuvwxyz"), .ref fo, .ref d])) fo = some (.lst []) := by
      rw [upd_ne (ne_of_none (by rw [upd_ne nfd, upd_same]) ntp), upd_ne nfd, upd_same]
    have e2 : (upd (upd (upd H fo (.lst [])) d (.dK [])) tp (.tup [.str (Str.ofString "abcdefghijklmnopqrstuvwxyz"), .ref fo, .ref d])) d = some (.dK []) := by
      rw [upd_ne (ne_of_none upd_same ntp), upd_same]
    have s1 : Same H (upd (upd (upd H fo (.lst [])) d (.dK [])) tp (.tup [.str (Str.ofString "abcdefghijklmnopqrstuvwxyz"), .ref fo, .ref d])) := ((same_upd nfo).trans (same_upd nd)).trans (same_upd ntp)
    refine ⟨tp, [.str alpha, .ref fo, .ref d], rfl, sqt_of upd_same, rfl, _, [.ref fo, .ref d], rfl, _, [.ref d], rfl, _, [], rfl, rfl, ?_⟩
    generalize (upd (upd (upd H fo (.lst [])) d (.dK [])) tp (.tup [.str (Str.ofString "abcdefghijklmnopqrstuvwxyz"), .ref fo, .ref d])) = H1 at e1 e2 s1
    have nd0 : H d = none := (same_upd nfo).free nd
    -- the laps
    refine ⟨.int m, rfl, m, rfl, by omega, by omega, for_range (n := (m : Int).toNat) (fun i σ' H' => ∃ o5 o6 o7 o8 ns, σ' = [some (.ref a), some (.int m), some (.str alpha), some (.ref fo), some (.ref d), o5, o6, o7, o8] ∧ SameX a H H' ∧ Pot H' a (N + 11 * i) ∧
      H' fo = some (.lst (ns.map V.str)) ∧ H' d = some (.dK (ns.map fun z => ((Sum.inr z : Key), V.bl true))) ∧ ns.length = i ∧ ns.Nodup ∧ ∀ z ∈ ns, Nm z)
      ⟨_, _, _, _, [], rfl, .of s1, hP.same s1, e1, e2, rfl, List.nodup_nil, fun _ z => nomatch z⟩ ?_ ?_⟩
    · rintro i σ1 H2 hi ⟨o5, o6, o7, o8, ns, rfl, sx, hp, hfo, hd, hl, hnd, hnm⟩
      refine r_gname ?_
      have hdn : d ≠ fo := Ne.symm nfd
      have hda : d ≠ a := fun e => hPn (e ▸ nd0)
      have hfa : fo ≠ a := fun e => hPn (e ▸ nfo)
      have hi' : i < m := by omega
      -- ''.join([..])
      refine rs_set ⟨⟨_, rfl⟩, .ref a, rfl, by show 5 ≤ sizeLine; decide, fun l nl => .inl ⟨a, l, fewD, N + 11 * i, rfl, hp.same (same_upd nl), by omega, sql_of upd_same, fun e => hp.some (e ▸ nl), by decide, by decide, fun ix v H3 hv s3 hp3 => ?_⟩⟩
      obtain ⟨x, rfl, hx⟩ := few_int v (List.mem_of_getElem? hv)
      have sx3 : SameX a H2 H3 := (SameX.of (same_upd nl)).trans s3
      refine ⟨_, _, rfl, rfl, _, rfl, by omega, by omega, fun D hD => ?_⟩
      refine Hw.lc_range (1 + (x : Int)).toNat (fun j H' => ∃ cs : List Nat, cs.length = j ∧ (∀ c ∈ cs, 97 ≤ c ∧ c ≤ 122) ∧ H' D = some (.lst (cs.map fun c => V.str (SL [c]))) ∧ SameX a H3 H' ∧ Pot H' a (N + 11 * i + 1 + j))
        ⟨[], rfl, fun _ z => (by cases z), upd_same, .of (same_upd hD), hp3.same (same_upd hD)⟩ ?_ ?_
      · rintro j H4 hj ⟨cs, rfl, hcs, eD, sx4, hp4⟩
        refine ⟨rfl, r_yes ?_⟩
        refine ⟨.ref a, rfl, .str alpha, rfl, .inr ⟨a, alpha, _, rfl, hp4, by omega, by decide +kernel, by decide +kernel, fun c H5 hc s5 hp5 => ?_⟩⟩
        have hDa : D ≠ a := fun e => hp3.some (e ▸ hD)
        refine ⟨_, s5 _ _ hDa eD, small1000 (by rw [List.length_map]; omega), cs ++ [c], by rw [List.length_append]; rfl, fun z hz => ?_, ?_, fun b o hb e => ?_, ?_⟩
        · rcases List.mem_append.mp hz with hz | hz
          · exact hcs z hz
          · rw [List.mem_singleton.mp hz]; exact alpha_mem c hc
        · rw [upd_same, List.map_append]; rfl
        · rw [upd_ne (ne_of_none e hD)]; exact s5 _ _ hb (sx4 _ _ hb e)
        · obtain ⟨xx, yy, zz, e, hh⟩ := hp5.ex
          exact ⟨xx, yy, zz, by rw [upd_ne (Ne.symm hDa)]; exact e, hh⟩
      rintro H4 ⟨cs, hcl, hcs, eD, sx4, hp4⟩
      have hw0 : Nm (Txt.join (Str.ofString "") (cs.map fun c => SL [c])) := by
        have e := ones_join cs
        have l : (Txt.join (Str.ofString "") (cs.map fun c => SL [c])).length = cs.length := by rw [len_cps, e]
        exact ⟨by omega, by omega, by rw [e]; exact hcs⟩
      refine ⟨Str.ofString "", D, cs.map fun c => SL [c], rfl, rfl, .inl (sql_of (by rw [eD, List.map_map]; rfl)), ?_, ?_⟩
      · have e : ((cs.map fun c => SL [c]).map (·.length)).sum = cs.length := by
          rw [List.map_map]
          clear hcl hcs eD hw0
          induction cs with
          | nil => rfl
          | cons c cs ih => rw [List.map_cons, List.sum_cons, ih, List.length_cons]; show 1 + cs.length = cs.length + 1; omega
        rw [e, List.length_map]
        show cs.length + cs.length * 0 ≤ 16777216
        omega
      generalize (Txt.join (Str.ofString "") (cs.map fun c => SL [c])) = w0 at hw0
      have sx24 : SameX a H2 H4 := sx3.trans sx4
      -- if _law_take(pot, 17) == 0
      refine ⟨fun σ' H' => ∃ w o7 o8, Nm w ∧ σ' = [some (.ref a), some (.int m), some (.str alpha), some (.ref fo), some (.ref d), some (.int (0 + (i : Int))), some (.str w), o7, o8] ∧ SameX a H2 H' ∧ Pot H' a (N + 11 * (i + 1)), ?_, ?_⟩
      · refine ⟨.ref a, rfl, a, 17, _, rfl, hp4, by omega, by decide, by decide, fun r H5 r0 r1 s5 hp5 => ⟨rfl, _, rfl, ite2 (fun _ => ?_) (fun _ => ?_)⟩⟩
        · refine ⟨.ref a, rfl, by show 7 ≤ sizeLine; decide, fun l2 nl2 => .inl ⟨a, l2, wordsD, _, rfl, hp5.same (same_upd nl2), by omega, sql_of upd_same, fun e => hp5.some (e ▸ nl2), by decide, by decide, fun ix2 v2 H6 hv2 s6 hp6 => ?_⟩⟩
          obtain ⟨z, rfl, hz⟩ := words_nm v2 (List.mem_of_getElem? hv2)
          exact ⟨z, _, _, hz, rfl, (sx24.trans s5).trans ((SameX.of (same_upd nl2)).trans s6), hp6.mono (by omega)⟩
        · exact ⟨w0, _, _, hw0, rfl, sx24.trans s5, hp5.mono (by omega)⟩
      rintro σ5 H5 ⟨w, o7', o8', hw, rfl, sx5, hp5⟩
      have hfo5 := sx5 _ _ hfa hfo
      have hd5 := sx5 _ _ hda hd
      -- at = 0; while word in known
      refine rs_set ?_
      refine rs_while (fun σ' H' => H' = H5 ∧ ∃ kk : Nat, σ' = [some (.ref a), some (.int m), some (.str alpha), some (.ref fo), some (.ref d), some (.int (0 + (i : Int))), some (.str (cand w kk)), some (.int kk), o8'] ∧ ∀ j, j < kk → cand w j ∈ ns)
        (fun σ' _ => at7 σ') ⟨rfl, 0, rfl, fun _ z => absurd z (Nat.not_lt_zero _)⟩ ?_
      rintro σ6 H6 ⟨rfl, kk, rfl, hkk⟩
      have hfew := cand_few hkk
      refine ⟨(valV (ns.map fun z => ((Sum.inr z : Key), V.bl true)) (Sum.inr (cand w kk))).isSome, fun Q1 q1 => ⟨_, rfl, _, rfl, d, _, rfl, DGet.k (k := Sum.inr (cand w kk)) hd5, _, rfl, q1⟩, fun hin => ?_, fun hout => ?_⟩
      · have hmem : cand w kk ∈ ns := by
          by_cases h : cand w kk ∈ ns
          · exact h
          · rw [valV_seen, if_neg h] at hin; cases hin
        have a1 := alpha_at (kk / 26) (by omega)
        have a2 := alpha_at (kk % 26) (by omega)
        have lw := (cand_nm hw (k := kk) (by omega)).2.1
        refine ⟨_, rfl, _, rfl, _, _, rfl, rfl, ⟨by decide, by decide⟩, alpha, _, 97 + kk / 26, rfl, rfl, by decide +kernel, ?_, _, rfl, _, rfl, _, _, rfl, rfl, (by show (0 : Int) < 26; decide), alpha, _, 97 + kk % 26, rfl, rfl, by decide +kernel, ?_, _, _, rfl, rfl, (by show 1 + 1 ≤ sizeLine; decide), ?_⟩
        · have e : ((kk : Int) / 26) = ((kk / 26 : Nat) : Int) := by omega
          rw [e]; exact atI_nat a1
        · have e : ((kk : Int) % 26) = ((kk % 26 : Nat) : Int) := by omega
          rw [e]; exact atI_nat a2
        refine ⟨_, rfl, 2, rfl, cand w kk, rfl, Nat.le_of_lt (small1000 (by omega)), _, _, rfl, rfl, ?_, ?_⟩
        · rw [app_len, cut2, SL_len, List.length_drop, ← len_cps]
          refine Nat.le_of_lt (small1000 ?_)
          show 1 + 1 + _ ≤ 1000
          omega
        · refine ⟨_, rfl, _, _, rfl, rfl, _, _, rfl, ⟨rfl, kk + 1, ?_, ?_⟩, ?_⟩
          · rw [← cand_succ]; rfl
          · intro j hj
            by_cases e : j = kk
            · rw [e]; exact hmem
            · exact hkk j (by omega)
          · show (400 - ((kk : Int) + 1)).toNat < (400 - (kk : Int)).toNat
            omega
      · have hno : cand w kk ∉ ns := fun h => by
          rw [valV_seen, if_pos h] at hout; cases hout
        have hlen : (ns.map fun z => ((Sum.inr z : Key), V.bl true)).length < sizeLine := small1000 (by rw [List.length_map]; omega)
        -- known[word] = True; found.append(word)
        refine ⟨.ref d, rfl, _, rfl, d, _, rfl, DPut.k (k := Sum.inr (cand w kk)) hd5 hlen, ?_⟩
        have hv : valV (ns.map fun z => ((Sum.inr z : Key), V.bl true)) (Sum.inr (cand w kk)) = none := by rw [valV_seen, if_neg hno]
        have efo : (upd H6 d (.dK (putK (ns.map fun z => ((Sum.inr z : Key), V.bl true)) (Sum.inr (cand w kk)) (V.bl true)))) fo = some (.lst (ns.map V.str)) := by rw [upd_ne (Ne.symm hdn)]; exact hfo5
        refine ⟨.ref fo, rfl, .inl ⟨rfl, _, sql_of efo⟩, _, rfl, fo, _, _, rfl, rfl, efo, small1000 (by rw [List.length_map]; omega), ?_⟩
        refine ⟨_, _, _, _, ns ++ [cand w kk], rfl, fun b o hb e => ?_, ?_, ?_, ?_, ?_, ?_, ?_⟩
        · have n1 : b ≠ fo := ne_of_none e nfo
          have n2 : b ≠ d := ne_of_none e nd0
          rw [upd_ne n1, upd_ne n2]
          exact sx5 _ _ hb (sx _ _ hb e)
        · obtain ⟨xx, yy, zz, e, hh⟩ := hp5.ex
          exact ⟨xx, yy, zz, by rw [upd_ne (Ne.symm hfa), upd_ne (Ne.symm hda)]; exact e, hh⟩
        · rw [upd_same, List.map_append]; rfl
        · rw [upd_ne hdn, upd_same, putK_new _ hv, List.map_append]; rfl
        · rw [List.length_append, hl]; rfl
        · rw [List.nodup_append]
          exact ⟨hnd, by simp, fun x hx y hy e => hno (by rw [List.mem_singleton.mp hy] at e; exact e ▸ hx)⟩
        · intro z hz
          rcases List.mem_append.mp hz with hz | hz
          · exact hnm z hz
          · rw [List.mem_singleton.mp hz]; exact cand_nm hw (by omega)
    · rintro σ1 H2 ⟨o5, o6, o7, o8, ns, rfl, sx, hp, hfo, hd, hl, hnd, hnm⟩
      have em : (m : Int).toNat = m := Int.toNat_natCast m
      rw [em] at hp hl
      exact ⟨_, rfl, q fo ns H2 hl hnd hnm sx nfo hfo hp⟩
end
end Hw

set_option Elab.async false
set_option linter.all false
set_option maxRecDepth 100000
set_option maxHeartbeats 4000000
namespace Hw
open PySem L2 PyProof.Rows
/-! a built-in class called with keywords -/
theorem callWith_tyK {M : Model} {A : Around} {E : Value → Shared → Prop} {s : Shared} {pos : Pos} {T : String} {first : List Value} {args : List (Bool × Sem Value)} {keywords : List (Option Str × Sem Value)} {Q : Value → Shared → Prop}
    (hp : args.any (·.1) = false) (hk : keywords.any (·.1.isNone) = false) (h : wpAny M A (evalArgs (.type T) true args keywords) (fun a s1 => wpAny M A (call (.type T) (first ++ a.pos) a.kw) Q E s1) E s) :
    wpAny M A (callWith pos (.type T) first args keywords) Q E s := by
  unfold callWith
  refine wpAny_bind (wpAny_holding (wpAny_mono h (fun a s1 h1 => wpAny_bind (wpAny_standAt ?_)) fun _ _ z => z))
  simp only [hp, hk, Bool.or_false]
  refine wpAny_bind (wpAny_pure ?_)
  exact wpAny_bind (wpAny_mono h1 (fun r s2 hr => wpAny_bind (wpAny_holding (wpAny_point (wpAny_pure hr)))) fun _ _ z => z)
/-! enumerate(list, start=k) -/
def IteK (K : PySem.W.Frag) (a : Addr) (k0 : Int) : It :=
  ⟨fun i H => ∃ (xs : List V) (x : V), SqL K H a xs ∧ xs[i]? = some x, fun i H v H' => ∃ T x, v = .ref T ∧ H T = none ∧ H' = upd H T (.tup [.int (k0 + (i : Nat)), x]) ∧ ∀ xs, SqL K H a xs → xs[i]? = some x, fun i H => ∃ xs : List V, SqL K H a xs ∧ xs.length = i⟩
theorem turn_enumK {P : Program} {w : World} {K : PySem.W.Frag} {elts : List Expr} {kk : Nat} {tpos : Pos} (k0 : Int) (a e it : Addr) :
    Turn P w K (.Tuple elts kk tpos) (IteK K a k0) [e, it] e (fun i h => (∃ old, IsEnum h e it (k0 + (i : Nat)) old) ∧ h.IsListIter it a i ∧ e ≠ it) where
  mem := by simp
  obj := fun i h st b hb => by
    obtain ⟨⟨old, he⟩, ⟨o, ho, hc, hd⟩, _⟩ := st
    rcases (show b = e ∨ b = it by simpa using hb) with z | z
    · subst z; exact ⟨_, he, fun v q => nomatch q⟩
    · subst z; exact ⟨o, ho, fun v q => by rw [hd] at q; cases q⟩
  keep := fun i h h' st k => by
    obtain ⟨⟨old, he⟩, hi, hne⟩ := st
    exact ⟨⟨old, k e (by simp) _ he⟩, hi.at fun o q => k it (by simp) o q, hne⟩
  item := by
    intro X hP hw hK hc i pins s σ H E I hf st hg
    subst hP hw hK
    obtain ⟨⟨old, he⟩, hit, hne⟩ := st
    obtain ⟨xs, x, hq, hx⟩ := hg
    obtain ⟨its, rv, p, hz⟩ := I.list hq
    obtain ⟨u, hu, ru⟩ := rv.get hx
    have hel : e < s.heap.objs.size := Heap.lt_size he
    have hil : it < s.heap.objs.size := by
      obtain ⟨_, q, _⟩ := hit
      exact Heap.lt_size q
    have hae : a ≠ e := fun z => by
      obtain ⟨o1, q1, q2, _⟩ := p.isList
      subst z
      rw [show s.heap.get? a = _ from he] at q1
      obtain rfl := Option.some.inj q1
      injection q2 with q2
      exact absurd q2 (by decide)
    have hai : a ≠ it := fun z => by
      obtain ⟨o1, q1, q2, _⟩ := p.isList
      obtain ⟨o2, q3, q4, _⟩ := hit
      subst z
      rw [q3] at q1
      obtain rfl := Option.some.inj q1
      rw [q4] at q2
      injection q2 with q2
      exact absurd q2 (by decide)
    have hlt : i < its.toArray.size := by
      have := (List.getElem?_eq_some_iff.mp hu).1
      simpa using this
    refine wpAny_pyNext_enum_itemC (Draws.list (A := X.A.in1) (I.ok.hd hc) it a hai its.toArray) he ⟨hit, p.isList⟩ hlt hne (by simp [Ne.symm hae, hne]) fun x' h' tk hx' ho hst' hT hsz hk => ⟨_, rfl, wpAny_letOwnedTupleGo_enum (s := { s with heap := h', toks := tk + 1 }) ho fun h2 he' sb => ?_⟩
    obtain ⟨hit', hl'⟩ := hst'
    obtain rfl : u = x' := by
      rw [show its.toArray[i]? = its[i]? by simp] at hx'
      rw [hu] at hx'
      exact Option.some.inj hx'
    have hT2 : h2.get? s.heap.objs.size = some { cls := .type "tuple", data := .seq #[.int (k0 + (i : Nat)) tk, u] } := (sb.2 _ (Nat.ne_of_gt hel)).trans hT
    have new : ObjOk X.prog X.w (upd H s.heap.objs.size (.tup [.int (k0 + (i : Nat)), x])) h2 s.heap.objs.size (.tup [.int (k0 + (i : Nat)), x]) :=
      ⟨by show 2 ≤ sizeLine; decide, [.int (k0 + (i : Nat)) tk, u], .cons ⟨_, rfl⟩ (.cons ru .nil), ⟨_, hT2, rfl, _, rfl⟩⟩
    have I1 : Inv X pins σ (upd H s.heap.objs.size (.tup [.int (k0 + (i : Nat)), x])) { s with heap := h2, toks := tk + 1 } :=
      I.turnedNew (ch := [e, it]) (fun b ob hb q => (sb.2 b (fun z => hb (by simp [z]))).trans (hk b ob (fun z => hb (by simp [z])) (fun z => hb (by simp [z])) q)) hf (Nat.le_refl _) new
    refine ⟨.ref s.heap.objs.size, _, I1, rfl, ⟨_, x, rfl, I.hok.fresh (Nat.le_refl _), rfl, fun ys hy => by rw [I.list_inj hy hq]; exact hx⟩, ⟨⟨u, ?_⟩, hit'.at fun o q => (sb.2 it (Ne.symm hne)).trans q, hne⟩, fun b hb => ?_⟩
    · have e1 : k0 + ((i + 1 : Nat) : Int) = k0 + (i : Nat) + 1 := by omega
      rw [e1]; exact he'
    · have hb' : b < s.heap.objs.size := by
        rcases (show b = e ∨ b = it by simpa using hb) with z | z
        · rw [z]; exact hel
        · rw [z]; exact hil
      rw [upd_ne (Nat.ne_of_lt hb')]
      exact (hf b hb).1
  done := by
    intro X hP hw hK hc i pins s σ H E I hf st hg
    subst hP hw hK
    obtain ⟨⟨old, he⟩, hit, hne⟩ := st
    obtain ⟨xs, hq, hx⟩ := hg
    obtain ⟨its, rv, p, hz⟩ := I.list hq
    obtain ⟨f0, f1, f2, f3, f4, f5⟩ := hf it (by simp)
    have hl := rv.length
    have hai : a ≠ it := fun z => by
      obtain ⟨o1, q1, q2, _⟩ := p.isList
      obtain ⟨o2, q3, q4, _⟩ := hit
      subst z
      rw [q3] at q1
      obtain rfl := Option.some.inj q1
      rw [q4] at q2
      injection q2 with q2
      exact absurd q2 (by decide)
    have ei : its.toArray.size = i := by simp; omega
    refine wpAny_pyNext_enum_endD (Draws.list (A := X.A.in1) (I.ok.hd hc) it a hai its.toArray) he ⟨by rw [ei]; exact hit, p.isList⟩ fun h' eb => ⟨rfl, I.turned (t' := s.toks) (fun b o hb q => eb b o hb q) f0 f1 f3 f4 f5⟩
  self := fun A i s Q E st h => by
    obtain ⟨⟨_, he⟩, _⟩ := st
    exact wpAny_pyIter_enum he h
def iEnumK (K : PySem.W.Frag) (ta tk : TA) : TI := fun σ H R => ta σ H fun vs H1 => tk σ H1 fun zs H2 => ∃ a xs k, vs = [.ref a] ∧ zs = [.int k] ∧ -(2 ^ 62) ≤ k ∧ k < 2 ^ 62 ∧ SqL K H2 a xs ∧ R (IteK K a k) H2
theorem pi_enumK {X : Cx} {e ke : Expr} {ta tk : TA} {p pos tpos kp : Pos} {elts : List Expr} {kk : Nat} (hg : Gl X "enumerate") (hm : X.mg "enumerate" = none) (ha : PA X [e] ta) (hk : PK X [⟨some (Str.ofString "start"), ke, kp⟩] tk)
    (he : backTo pos (starEach [e] X.env) = (false, eval e X.env) :: backTo pos (starEach [] X.env) := by rfl) (hpl : (backTo pos (starEach [e] X.env)).any (·.1) = false := by rfl)
    (hall : (backToKw pos (keywordEach [⟨some (Str.ofString "start"), ke, kp⟩] X.env)).all (·.1.isSome) = true := by rfl) (hnone : (backToKw pos (keywordEach [⟨some (Str.ofString "start"), ke, kp⟩] X.env)).any (·.1.isNone) = false := by rfl)
    (hks : (backToKw pos (keywordEach [⟨some (Str.ofString "start"), ke, kp⟩] X.env)).filterMap (·.1) = [Str.ofString "start"] := by rfl) :
    PI X (.Tuple elts kk tpos) (.Call (.Name "enumerate" p) [e] [⟨some (Str.ofString "start"), ke, kp⟩] pos) (iEnumK X.K ta tk) := by
  refine ⟨fun pins s σ H R I h => ?_⟩
  refine wpAny_Call_Name_kw (ld_blt I hg hm boot_enumerate ?_ (by decide) (by decide))
  refine callWith_tyK hpl hnone ?_
  rw [he]
  refine evalArgs_kwB hall ?_
  rw [← he]
  refine thn (ha.run pos pins s σ H _ I h) fun us s1 ⟨vs, H1, I1, r1, q1⟩ => thn (hk.run pos pins s1 σ H1 _ I1 q1) fun ws s2 ⟨zs, H2, I2, r2, a, xs, k, ex, ez, k0, k1, hq, q⟩ => ?_
  subst ex ez
  rw [hks]
  obtain ⟨u, rfl, ru⟩ := r1.one
  obtain ⟨v, rfl, rv⟩ := r2.one
  obtain rfl : u = Value.ref a := ru
  obtain ⟨t, rfl⟩ := rv
  obtain ⟨its, rvs, p', hz⟩ := I2.list hq
  refine enum_begins_start (begins_list a its.toArray) p'.isList (by omega) (by omega) fun h' hen hit hsz hkp => ?_
  refine wpAny_pyIter_enum hen ?_
  have I3 : Inv X pins σ H2 { s2 with heap := h' } := I2.kept (t' := s2.toks) hkp
  have li : h'.IsListIter s2.heap.objs.size a 0 := ⟨_, hit, rfl, rfl⟩
  refine ⟨s2.heap.objs.size + 1, [s2.heap.objs.size + 1, s2.heap.objs.size], _, _, H2, rfl, I3, turn_enumK k a (s2.heap.objs.size + 1) s2.heap.objs.size, ⟨⟨.none, by rw [show k + ((0 : Nat) : Int) = k by omega]; exact hen⟩, li, Nat.succ_ne_self _⟩, fun b hb => ?_, q⟩
  have hle : s2.heap.objs.size ≤ b := by
    rcases (show b = s2.heap.objs.size + 1 ∨ b = s2.heap.objs.size by simpa using hb) with z | z
    · rw [z]; exact Nat.le_add_right _ _
    · rw [z]; exact Nat.le_refl _
  exact I2.fpOk hle (I2.hok.fresh hle)
theorem walk_enumK {K : PySem.W.Frag} {a : Addr} {xs : List V} {k : Int} : Walk (IteK K a k) xs.length (fun H => SqL K H a xs) (YPair (fun i => some (.int (k + (i : Nat)))) (fun i => xs[i]?)) := by
  refine ⟨fun i _ hi q => ⟨xs, xs[i], q, by simp [hi]⟩, fun _ q => ⟨xs, q, rfl⟩, fun i H v H' _ q y => ?_⟩
  obtain ⟨T, x, h1, h2, h3, h4⟩ := y
  exact ⟨T, .int (k + (i : Nat)), x, h1, h2, h3, rfl, h4 xs q⟩
/-! a def called with keywords alone -/
section
variable {X : Cx} {CX : CXT} {k : Nat} {f : Addr} {fd : FuncData} {ps ks : List Str} {sp : Sp} {E : XK} {x : Str} {p pos : Pos} {kws : List Keyword} {tk : TA} {g : List Value → List Value → List Value} {gV : List V → List V → List V}
def tCallK0 (sp : Sp) (gV : List V → List V → List V) (E : XK) (tk : TA) : TE := fun σ H Q => tk σ H fun zs H2 => sp (gV [] zs) H2 Q E
theorem pe_callK0 (F : FnOk X.prog X.w X.K X.mg X.base CX k f fd ps sp) (hr : Room k X.A) (hg : Gl X x) (hm : X.mg x = some (.ref f)) (hk : PySem.W.keepIn X.K (.ref f) = true) (hb : KBinds X.K fd ps ks g gV) (hx : Passes CX X E) (hkw : PK X kws tk)
    (hall : (backToKw pos (keywordEach kws X.env)).all (·.1.isSome) = true := by rfl) (hks : (backToKw pos (keywordEach kws X.env)).filterMap (·.1) = ks := by rfl) (hdb : (x == ("__debug__" : Str)) = false := by decide)
    (hpl : ((backTo pos (starEach [] X.env)).any (·.1) || (backToKw pos (keywordEach kws X.env)).any (·.1.isNone)) = false := by rfl) : PE X (.Call (.Name x p) [] kws pos) (tCallK0 sp gV E tk) := by
  refine ⟨fun pins s σ H Q I h => ?_⟩
  refine wpAny_Call_Name_kw (ld_glob I hg hm ?_ hdb)
  refine PySem.W.callWith_KW0 (h₀ := X.base) I.ok.mod.kin hk hall (thn (hkw.run pos pins s σ H _ I h) fun ws s2 ⟨zs, H2, I2, rz, q2⟩ => ⟨I2.kIn, ?_⟩) hpl
  rw [hks]
  exact run_fnk F hr hb hx I2 .nil rz q2
end
end Hw

set_option Elab.async false
set_option linter.all false
set_option maxRecDepth 100000
set_option maxHeartbeats 4000000
namespace Hw
open PySem L2 PyProof.Rows
/-! the less and the greater of two texts -/
def strLt (a b : Str) : Bool := decide (a.cps.toList < b.cps.toList)
def txtV : Value → Str
  | .str x _ => x
  | _ => Str.ofString ""
def IsS (v : Value) : Prop := ∃ x t, v = .str x t
theorem cmpS_lt {prog : Program} {w : World} {A : Around} (vs : Array Value) (hn : ∀ v ∈ vs, IsS v) :
    CmpOf prog w A .Lt (fun i v => vs[i]? = some v) (fun i j => strLt (txtV (vs.getD i .none)) (txtV (vs.getD j .none))) := fun i j vi vj s Q E hi hj h => by
  have e1 : vs.getD i .none = vi := by simp [Array.getD_eq_getD_getElem?, hi]
  have e2 : vs.getD j .none = vj := by simp [Array.getD_eq_getD_getElem?, hj]
  simp only [e1, e2] at h
  obtain ⟨x, t, rfl⟩ := hn _ (Array.mem_of_getElem? hi)
  obtain ⟨y, u, rfl⟩ := hn _ (Array.mem_of_getElem? hj)
  exact PyProof.Rows.lt_str h
theorem cmpS_gt {prog : Program} {w : World} {A : Around} (vs : Array Value) (hn : ∀ v ∈ vs, IsS v) :
    CmpOf prog w A .Gt (fun i v => vs[i]? = some v) (fun i j => strLt (txtV (vs.getD j .none)) (txtV (vs.getD i .none))) := fun i j vi vj s Q E hi hj h => by
  have e1 : vs.getD i .none = vi := by simp [Array.getD_eq_getD_getElem?, hi]
  have e2 : vs.getD j .none = vj := by simp [Array.getD_eq_getD_getElem?, hj]
  simp only [e1, e2] at h
  obtain ⟨x, t, rfl⟩ := hn _ (Array.mem_of_getElem? hi)
  obtain ⟨y, u, rfl⟩ := hn _ (Array.mem_of_getElem? hj)
  exact PySem.P.gt_str h
theorem max_two_S {prog : Program} {w : World} {A : Around} {E : Value → Shared → Prop} {s : Shared} {Q : Value → Shared → Prop} {a b : Value} (hh : A.handled = none) (ha : IsS a) (hb : IsS b)
    (h : ∀ h' tk, (∀ c o, s.heap.get? c = some o → h'.get? c = some o) → Q (if strLt (txtV a) (txtV b) then b else a) { s with heap := h', toks := tk }) :
    wpAny (model prog w) A (call (.builtin "max") [a, b]) Q E s := by
  have hT : (s.heap.push { cls := .type "tuple", data := .seq #[a, b] }).IsTuple s.heap.objs.size #[a, b] := ⟨_, Heap.get?_push_size _ rfl, rfl, 0, rfl⟩
  refine call_max_two (wpAny_pyIter_tuple hT ?_)
  have hsz : (s.heap.push { cls := .type "tuple", data := .seq #[a, b] }).objs.size = s.heap.objs.size + 1 := Heap.size_push ..
  refine ⟨_, [_, s.heap.objs.size], [_], _, _, _, _, rfl, Walks.tuple (A := A.in1) hh _ s.heap.objs.size (by rw [hsz]; exact Nat.ne_of_lt (Nat.lt_succ_self _)) #[a, b],
    ⟨⟨_, Heap.get?_push_size _ rfl, rfl, rfl⟩, hT.push _⟩, fun c hc => ?_, by simp, cmpS_gt #[a, b] (by simp [ha, hb]), fun v h' tk hP hk => ?_⟩
  · show c < ((s.heap.push _).push _).objs.size
    rw [Heap.size_push, hsz]
    rcases List.mem_cons.mp hc with rfl | hc
    · rw [hsz]; exact Nat.lt_succ_self _
    · rcases List.mem_cons.mp hc with rfl | hc
      · exact Nat.lt_succ_of_lt (Nat.lt_succ_self _)
      · cases hc
  · have hold : ∀ c o, s.heap.get? c = some o → h'.get? c = some o := fun c o e => by
      refine hk c o (fun hm => ?_) (Heap.get?_push_of_some _ (Heap.get?_push_of_some _ e))
      rcases List.mem_cons.mp hm with e1 | hm
      · have := Heap.lt_size e; rw [e1, hsz] at this; exact Nat.lt_irrefl _ (Nat.lt_of_succ_lt this)
      · cases hm
    have := h h' tk hold
    have hv : v = if strLt (txtV a) (txtV b) then b else a := by
      cases hc : strLt (txtV a) (txtV b) <;> simp [argBest, hc] at hP <;> simp [hP]
    rw [hv]; exact this
theorem min_two_S {prog : Program} {w : World} {A : Around} {E : Value → Shared → Prop} {s : Shared} {Q : Value → Shared → Prop} {a b : Value} (hh : A.handled = none) (ha : IsS a) (hb : IsS b)
    (h : ∀ h' tk, (∀ c o, s.heap.get? c = some o → h'.get? c = some o) → Q (if strLt (txtV b) (txtV a) then b else a) { s with heap := h', toks := tk }) :
    wpAny (model prog w) A (call (.builtin "min") [a, b]) Q E s := by
  have hT : (s.heap.push { cls := .type "tuple", data := .seq #[a, b] }).IsTuple s.heap.objs.size #[a, b] := ⟨_, Heap.get?_push_size _ rfl, rfl, 0, rfl⟩
  refine call_min_two (wpAny_pyIter_tuple hT ?_)
  have hsz : (s.heap.push { cls := .type "tuple", data := .seq #[a, b] }).objs.size = s.heap.objs.size + 1 := Heap.size_push ..
  refine ⟨_, [_, s.heap.objs.size], [_], _, _, _, _, rfl, Walks.tuple (A := A.in1) hh _ s.heap.objs.size (by rw [hsz]; exact Nat.ne_of_lt (Nat.lt_succ_self _)) #[a, b],
    ⟨⟨_, Heap.get?_push_size _ rfl, rfl, rfl⟩, hT.push _⟩, fun c hc => ?_, by simp, cmpS_lt #[a, b] (by simp [ha, hb]), fun v h' tk hP hk => ?_⟩
  · show c < ((s.heap.push _).push _).objs.size
    rw [Heap.size_push, hsz]
    rcases List.mem_cons.mp hc with rfl | hc
    · rw [hsz]; exact Nat.lt_succ_self _
    · rcases List.mem_cons.mp hc with rfl | hc
      · exact Nat.lt_succ_of_lt (Nat.lt_succ_self _)
      · cases hc
  · have hold : ∀ c o, s.heap.get? c = some o → h'.get? c = some o := fun c o e => by
      refine hk c o (fun hm => ?_) (Heap.get?_push_of_some _ (Heap.get?_push_of_some _ e))
      rcases List.mem_cons.mp hm with e1 | hm
      · have := Heap.lt_size e; rw [e1, hsz] at this; exact Nat.lt_irrefl _ (Nat.lt_of_succ_lt this)
      · cases hm
    have := h h' tk hold
    have hv : v = if strLt (txtV b) (txtV a) then b else a := by
      cases hc : strLt (txtV b) (txtV a) <;> simp [argBest, hc] at hP <;> simp [hP]
    rw [hv]; exact this
section
variable {X : Cx}
theorem call_maxS (hc : X.calm = true) : CallR X (.builtin "max") (fun xs H Q => ∃ a b, xs = [.str a, .str b] ∧ Q (.str (if strLt a b = true then b else a)) H) := by
  intro pins s σ H xs us Q I r h
  obtain ⟨i, j, rfl, q⟩ := h
  obtain ⟨u, w', rfl, ⟨t, rfl⟩, ⟨t', rfl⟩⟩ := vals2 r
  refine max_two_S (I.ok.hd hc) ⟨_, _, rfl⟩ ⟨_, _, rfl⟩ fun h' tk k => ⟨_, H, I.kept k, ?_, q⟩
  show RelV _ (if strLt i j = true then _ else _)
  by_cases hj : strLt i j = true
  · rw [if_pos hj, if_pos hj]; exact ⟨_, rfl⟩
  · rw [if_neg hj, if_neg hj]; exact ⟨_, rfl⟩
theorem call_minS (hc : X.calm = true) : CallR X (.builtin "min") (fun xs H Q => ∃ a b, xs = [.str a, .str b] ∧ Q (.str (if strLt b a = true then b else a)) H) := by
  intro pins s σ H xs us Q I r h
  obtain ⟨i, j, rfl, q⟩ := h
  obtain ⟨u, w', rfl, ⟨t, rfl⟩, ⟨t', rfl⟩⟩ := vals2 r
  refine min_two_S (I.ok.hd hc) ⟨_, _, rfl⟩ ⟨_, _, rfl⟩ fun h' tk k => ⟨_, H, I.kept k, ?_, q⟩
  show RelV _ (if strLt j i = true then _ else _)
  by_cases hj : strLt j i = true
  · rw [if_pos hj, if_pos hj]; exact ⟨_, rfl⟩
  · rw [if_neg hj, if_neg hj]; exact ⟨_, rfl⟩
/-! sorted over data, any number -/
def rSortB (K : PySem.W.Frag) : List V → Hp → VK → Prop := fun vs H Q => ∃ (a : Addr) (bs : List (V × PyData)), vs = [V.ref a] ∧ SqL K H a (bs.map (·.1)) ∧ (∀ b ∈ bs, Dp K H b.1 b.2 ∧ b.2.depth ≤ 50) ∧ PySem.W.AllAlike (bs.map (·.2)) ∧ PySem.W.Sortable (bs.map (·.2)) ∧ bs.length ≤ sizeLine ∧
  ∀ p, H p = none → Q (.ref p) (upd H p (.lst ((bs.mergeSort (PySem.W.dataLe false (·.2))).map (·.1))))
theorem each_of_vals {K : PySem.W.Frag} {P : Program} : ∀ {bs : List (V × PyData)} {us : List Value}, Vals (bs.map (·.1)) us → PySem.W.EachIs (fun (v : Value) (b : V × PyData) => RelV b.1 v) us bs
  | [], _, r => by cases r; exact .nil
  | b :: bs, _, r => by
    cases r with
    | cons r1 r2 => exact .cons r1 (each_of_vals (K := K) (P := P) r2)
theorem vals_of_each : ∀ {bs : List (V × PyData)} {us : List Value}, PySem.W.EachIs (fun (v : Value) (b : V × PyData) => RelV b.1 v) us bs → Vals (bs.map (·.1)) us
  | _, _, .nil => .nil
  | _, _, .cons r t => .cons r (vals_of_each t)
theorem reads_each {X : Cx} {pins : List (Addr × Obj)} {s : Shared} {σ : L2.St} {H : Hp} (I : Inv X pins σ H s) : ∀ {bs : List (V × PyData)} {us : List Value}, (∀ b ∈ bs, Dp X.K H b.1 b.2) → Vals (bs.map (·.1)) us → PySem.W.EachIs (fun (v : Value) (b : V × PyData) => ∃ as, Reads s.heap v b.2 as) us bs
  | [], _, _, r => by cases r; exact .nil
  | b :: bs, _, h, r => by
    cases r with
    | cons r1 r2 => exact .cons (Dp.reads I b.2 b.1 _ (h b List.mem_cons_self) r1) (reads_each I (fun b hb => h b (List.mem_cons_of_mem _ hb)) r2)
theorem cr_sortB (hu : X.A.units + 64 < cLine) : CallR X (.builtin "sorted") (rSortB X.K) := by
  intro pins s σ H vs us Q I r h
  obtain ⟨a, bs, rfl, hs, hd, hal, hk, hL, q⟩ := h
  obtain ⟨its, rv, hl, _⟩ := I.list hs
  rw [Vals.ref1 r]
  refine PySem.W.sorted_data (β := V × PyData) (vs := its) (bs := bs) (enc := (·.2)) (R := fun v b => RelV b.1 v) hl.isList (each_of_vals (K := X.K) (P := X.prog) rv) (reads_each I (fun b hb => (hd b hb).1) rv) hal hk hL (fun b hb => by have := (hd b hb).2; omega) fun out ho he => ?_
  have hv := vals_of_each he
  obtain ⟨ep, he'⟩ := PyProof.Rows.sortedAll_at s.heap its out.toArray
  have hlen : ((bs.mergeSort (PySem.W.dataLe false (·.2))).map (·.1)).length ≤ sizeLine := by rw [List.length_map, List.length_mergeSort]; exact hL
  exact ⟨.ref _, upd H (s.heap.objs.size + 1) (.lst ((bs.mergeSort (PySem.W.dataLe false (·.2))).map (·.1))), I.laid (t' := s.toks) (fun _ _ => PyProof.Rows.sortedAll_old) (Nat.le_succ _) ⟨hlen, out, ep, hv, he'⟩, rfl, q _ (I.hok.fresh (Nat.le_succ _))⟩
end

theorem walk_zipT {K : PySem.W.Frag} {a b : Addr} {xs ys : List V} {n : Nat} (hn : n = min xs.length ys.length) : Walk (RZ.ItzT K a b) n (fun H => SqT K H a xs ∧ SqT K H b ys) (YPair (fun i => xs[i]?) (fun i => ys[i]?)) := by
  subst hn
  refine ⟨fun i _ hi q => ?_, fun _ q => ⟨xs, ys, q.1, q.2, by omega⟩, fun i H v H' _ q y => ?_⟩
  · have h1 : i < xs.length := by omega
    have h2 : i < ys.length := by omega
    exact ⟨xs, ys, xs[i], ys[i], q.1, q.2, by simp [h1], by simp [h2]⟩
  · obtain ⟨T, x, z, h1, h2, h3, h4, h5⟩ := y
    exact ⟨T, x, z, h1, h2, h3, h4 xs q.1, h5 ys q.2⟩
/-! `<=` of two tuples of texts -/
theorem RcOp.le_str {A : Around} {s : Shared} (a b : Str) (t u : Tok) : Ob.RcOp .LtE A s (.str a t) (.str b u) (!strLt b a) := fun _ _ _ _ h => PySem.P.le_str h
def rLeS (K : PySem.W.Frag) : R2 := fun x y H Q => ∃ (a b : Addr) (ns ms : List Str), x = .ref a ∧ y = .ref b ∧ SqT K H a (ns.map V.str) ∧ SqT K H b (ms.map V.str) ∧
  Q (.bl (Ob.lexAt (fun j => ns.getD j (Str.ofString "") == ms.getD j (Str.ofString "")) (fun j => !strLt (ms.getD j (Str.ofString "")) (ns.getD j (Str.ofString ""))) (decide (ns.length ≤ ms.length)) 0 (min ns.length ms.length))) H
theorem str_item {us : List Value} {xs : List Str} (r : Vals (xs.map V.str) us) (j : Nat) (h : j < us.toArray.size) : ∃ t, us.toArray[j] = .str (xs.getD j (Str.ofString "")) t := by
  have h' : j < us.length := by simpa using h
  have hl := r.length
  rw [List.length_map] at hl
  obtain ⟨u, hu, ru⟩ := r.get (i := j) (x := V.str (xs.getD j (Str.ofString ""))) (by
    rw [List.getElem?_map, List.getElem?_eq_getElem (by omega : j < xs.length), List.getD_eq_getElem?_getD, List.getElem?_eq_getElem (by omega : j < xs.length)]; rfl)
  obtain ⟨t, rfl⟩ := ru
  refine ⟨t, ?_⟩
  rw [List.getElem?_eq_getElem h'] at hu
  simpa using Option.some.inj hu
theorem op_leS {X : Cx} (hu : X.A.units < cLine) : OpR X (compareOp .LtE) (rLeS X.K) := by
  intro pins s σ H x y v u Q I rx ry h
  obtain ⟨a, b, ns, ms, rfl, rfl, ha, hb, q⟩ := h
  cases rx
  cases ry
  obtain ⟨its, r1, p1, _⟩ := I.tuple ha
  obtain ⟨its2, r2, p2, _⟩ := I.tuple hb
  have e1 : its.toArray.size = ns.length := by rw [List.size_toArray, ← r1.length, List.length_map]
  have e2 : its2.toArray.size = ms.length := by rw [List.size_toArray, ← r2.length, List.length_map]
  have R := Ob.RcOp.tuples_le (A := X.A) (s := s) (e := fun j => ns.getD j (Str.ofString "") == ms.getD j (Str.ofString "")) (r := fun j => !strLt (ms.getD j (Str.ofString "")) (ns.getD j (Str.ofString ""))) p1 p2 hu (fun j h1 h2 => by
    obtain ⟨t, et⟩ := str_item r1 j h1
    obtain ⟨t', et'⟩ := str_item r2 j h2
    rw [et, et']
    exact SeqAt.EqAt.str_str _ _ _ _) (fun j h1 h2 _ => by
    obtain ⟨t, et⟩ := str_item r1 j h1
    obtain ⟨t', et'⟩ := str_item r2 j h2
    rw [et, et']
    exact RcOp.le_str _ _ _ _)
  rw [e1, e2] at R
  have z : wpAny (model X.prog X.w) X.A (compareOp .LtE (.ref a) (.ref b)) (EP X pins σ Q) X.xe s := R X.prog X.w X.xe (EP X pins σ Q) ⟨.bl _, H, I, rfl, q⟩
  exact z

/-! `v in x`, `v not in x` by the class's own `__contains__` -/
section
variable {X : Cx} {CX : CXT} {k : Nat} {f C : Addr} {fd : FuncData} {ps : List Str} {sp : Sp} {dvs : List V} {ds : List Value} {E : XK}
def rInM (C : Addr) (sp : Sp) (dvs : List V) (E : XK) (neg : Bool) : R2 := fun x y H Q => ∃ p dx fs, y = .ref p ∧ H p = some (.ins C dx fs) ∧ sp ([.ref p, x] ++ dvs) H (fun r H' => ∃ b, r = .bl b ∧ Q (.bl (if neg = true then !b else b)) H') E
theorem has_M {pins : List (Addr × Obj)} {s : Shared} {σ : L2.St} {H : Hp} {x : V} {v : Value} {p dx : Addr} {fs : List (Str × V)} {Qb : Bool → Shared → Prop} {Q' : VK} (I : Inv X pins σ H s) (rx : RelV x v) (hp : H p = some (.ins C dx fs)) (hm : Meth X.K C "__contains__" f) (F : FnOk X.prog X.w X.K X.mg X.base CX k f fd ps sp) (hr : Room k X.A) (hb : Binds X.K fd ps ds) (hd : Vals dvs ds) (hx : Passes CX X E)
    (h : sp ([.ref p, x] ++ dvs) H Q' E) (hq : ∀ u s1, EP X pins σ Q' u s1 → ∃ b, u = .bool b ∧ Qb b s1) : wpAny (model X.prog X.w) X.A (contains (.ref p) v) Qb X.xe s := by
  obtain ⟨mA, O, r, _⟩ := ins_get I.hok hp
  obtain ⟨od, J, hl⟩ := O.look
  unfold contains
  refine wpAny_holding (wpAny_bind (wpAny_bind (J.type.here ((PySem.W.looks_findIn I.kIn hm.at_).here ?_))))
  rw [if_neg (by simp)]
  refine wpAny_bind (PySem.W.unlessNone_K I.kIn J hm.at_ hm.fn ?_)
  refine thn (run_fn (us := [.ref p, v]) (vs := [.ref p, x]) F hr hb hd hx I (.cons rfl (.cons rx .nil)) h) fun u s1 hu => ?_
  obtain ⟨b, rfl, q⟩ := hq u s1 hu
  exact wpAny_truthy_bool q
theorem op_inM (hm : Meth X.K C "__contains__" f) (F : FnOk X.prog X.w X.K X.mg X.base CX k f fd ps sp) (hr : Room k X.A) (hb : Binds X.K fd ps ds) (hd : Vals dvs ds) (hx : Passes CX X E) : OpR X (compareOp .In) (rInM C sp dvs E false) := by
  intro pins s σ H x y v u Q I rx ry h
  obtain ⟨p, dx, fs, rfl, hp, h⟩ := h
  obtain rfl : u = Value.ref p := ry
  refine wpAny_bind (has_M (Qb := fun b s1 => wpAny (model X.prog X.w) X.A (pure (Value.bool b)) (EP X pins σ Q) X.xe s1) I rx hp hm F hr hb hd hx h fun u s1 hu => ?_)
  obtain ⟨z, H', I', rz, b, rfl, q⟩ := hu
  cases rz
  exact ⟨b, rfl, wpAny_pure ⟨.bl b, H', I', rfl, q⟩⟩
theorem op_notInM (hm : Meth X.K C "__contains__" f) (F : FnOk X.prog X.w X.K X.mg X.base CX k f fd ps sp) (hr : Room k X.A) (hb : Binds X.K fd ps ds) (hd : Vals dvs ds) (hx : Passes CX X E) : OpR X (compareOp .NotIn) (rInM C sp dvs E true) := by
  intro pins s σ H x y v u Q I rx ry h
  obtain ⟨p, dx, fs, rfl, hp, h⟩ := h
  obtain rfl : u = Value.ref p := ry
  refine wpAny_bind (has_M (Qb := fun b s1 => wpAny (model X.prog X.w) X.A (pure (Value.bool (!b))) (EP X pins σ Q) X.xe s1) I rx hp hm F hr hb hd hx h fun u s1 hu => ?_)
  obtain ⟨z, H', I', rz, b, rfl, q⟩ := hu
  cases rz
  exact ⟨b, rfl, wpAny_pure ⟨.bl (!b), H', I', rfl, q⟩⟩
end
end Hw

set_option Elab.async false
set_option linter.all false
set_option maxRecDepth 100000
set_option maxHeartbeats 4000000
namespace Hw
open PySem PySem.Spec L2 PyProof.Rows
/-! the order of texts and of pairs of texts -/
theorem strLt_irr (a : Str) : strLt a a = false := decide_eq_false (List.lt_irrefl _)
theorem strLt_tr {a b c : Str} (h : strLt a b = true) (h' : strLt b c = true) : strLt a c = true := decide_eq_true (List.lt_trans (of_decide_eq_true h) (of_decide_eq_true h'))
theorem strLt_as {a b : Str} (h : strLt a b = true) : strLt b a = false := by
  cases e : strLt b a with
  | false => rfl
  | true => have := strLt_tr h e; rw [strLt_irr] at this; cases this
theorem strLt_tri {a b : Str} (h : strLt a b = false) (h' : strLt b a = false) : a = b := by
  refine str_ext (List.le_antisymm ?_ ?_)
  · exact List.not_lt.mp (of_decide_eq_false h')
  · exact List.not_lt.mp (of_decide_eq_false h)
theorem strLt_ne {a b : Str} (h : strLt a b = true) : a ≠ b := fun e => by rw [e, strLt_irr] at h; cases h
def leS (a b : Str) : Bool := !strLt b a
theorem leS_tr (a b c : Str) (h : leS a b = true) (h' : leS b c = true) : leS a c = true := by
  unfold leS at *
  cases e : strLt c a with
  | false => rfl
  | true =>
    cases e1 : strLt b a with
    | true => rw [e1] at h; cases h
    | false =>
      cases e2 : strLt a b with
      | true => rw [strLt_tr e e2] at h'; cases h'
      | false => rw [strLt_tri e1 e2, e] at h'; cases h'
theorem leS_tot (a b : Str) : (leS a b || leS b a) = true := by
  unfold leS
  cases e : strLt b a with
  | false => rfl
  | true => rw [strLt_as e]; rfl
theorem leS_anti {a b : Str} (h : leS a b = true) (h' : leS b a = true) : a = b := by
  unfold leS at h h'
  exact strLt_tri (by simpa using h') (by simpa using h)
def sortS (l : List Str) : List Str := l.mergeSort leS
def Asc (l : List Str) : Prop := l.Pairwise fun a b => strLt a b = true
theorem sortS_perm (l : List Str) : (sortS l).Perm l := List.mergeSort_perm l leS
theorem sortS_le (l : List Str) : (sortS l).Pairwise fun a b => leS a b = true := List.pairwise_mergeSort leS_tr leS_tot l
theorem asc_of_le {l : List Str} (h : l.Pairwise fun a b => leS a b = true) (hn : l.Nodup) : Asc l := by
  refine (h.and hn).imp ?_
  rintro a b ⟨h1, h2⟩
  cases e : strLt a b with
  | true => rfl
  | false => exact absurd (strLt_tri e (by simpa [leS] using h1)) h2
theorem sortS_asc {l : List Str} (h : l.Nodup) : Asc (sortS l) := asc_of_le (sortS_le l) ((sortS_perm l).nodup_iff.mpr h)
theorem Asc.nodup {l : List Str} (h : Asc l) : l.Nodup := h.imp fun q => strLt_ne q
theorem Asc.le {l : List Str} (h : Asc l) : l.Pairwise fun a b => leS a b = true := h.imp fun q => by unfold leS; rw [strLt_as q]; rfl
theorem sortS_eq {l m : List Str} (h : m.Perm l) (hm : m.Pairwise fun a b => leS a b = true) : m = sortS l :=
  List.Perm.eq_of_pairwise (le := fun a b => leS a b = true) (fun a b _ _ h1 h2 => leS_anti h1 h2) hm (sortS_le l) (h.trans (sortS_perm l).symm)
theorem sortS_asc_id {l : List Str} (h : Asc l) : sortS l = l := (sortS_eq (.refl _) h.le).symm
theorem sortS_of_perm {l m : List Str} (h : l.Perm m) : sortS l = sortS m := sortS_eq ((sortS_perm l).trans h) (sortS_le l)
theorem risingS_le : ∀ (l : List Str) (p : Str), risingS p l = true → (p :: l).Pairwise fun a b => leS a b = true
  | [], _, _ => List.pairwise_singleton _ _
  | x :: r, p, h => by
    have h' : (!ltCps x.cps.toList p.cps.toList && risingS x r) = true := h
    rw [Bool.and_eq_true] at h'
    have ih := risingS_le r x h'.2
    have hpx : leS p x = true := by
      have := h'.1
      rw [PyProof.Rows.ltCps_eq] at this
      exact this
    refine List.pairwise_cons.mpr ⟨fun y hy => ?_, ih⟩
    rcases List.mem_cons.mp hy with rfl | hy
    · exact hpx
    · exact leS_tr _ _ _ hpx ((List.pairwise_cons.mp ih).1 y hy)
theorem sortedS_le : ∀ {l : List Str}, sortedS l = true → l.Pairwise fun a b => leS a b = true
  | [], _ => .nil
  | x :: r, h => risingS_le r x h
theorem sortedS_eq {l m : List Str} (h : m.Perm l) (hm : sortedS m = true) : m = sortS l := sortS_eq h (sortedS_le hm)
abbrev Tie := Str × Str
def ltP (p q : Tie) : Bool := if p.1 == q.1 then strLt p.2 q.2 else strLt p.1 q.1
def leP (p q : Tie) : Bool := !ltP q p
theorem ltP_irr (p : Tie) : ltP p p = false := by unfold ltP; rw [if_pos (beq_self_eq_true _), strLt_irr]
theorem ltP_iff {p q : Tie} : ltP p q = true ↔ strLt p.1 q.1 = true ∨ p.1 = q.1 ∧ strLt p.2 q.2 = true := by
  unfold ltP
  by_cases h : p.1 = q.1
  · rw [if_pos (beq_iff_eq.mpr h), h, strLt_irr]; simp
  · rw [if_neg (by simpa using h)]; simp [h]
theorem ltP_tr {p q r : Tie} (h : ltP p q = true) (h' : ltP q r = true) : ltP p r = true := by
  rw [ltP_iff] at *
  rcases h with h | ⟨e, h⟩ <;> rcases h' with h' | ⟨e', h'⟩
  · exact .inl (strLt_tr h h')
  · exact .inl (e' ▸ h)
  · exact .inl (e ▸ h')
  · exact .inr ⟨e.trans e', strLt_tr h h'⟩
theorem ltP_tri {p q : Tie} (h : ltP p q = false) (h' : ltP q p = false) : p = q := by
  have a : ¬ (ltP p q = true) := by rw [h]; exact Bool.false_ne_true
  have b : ¬ (ltP q p = true) := by rw [h']; exact Bool.false_ne_true
  rw [ltP_iff] at a b
  have e : p.1 = q.1 := strLt_tri (by simpa using fun z => a (.inl z)) (by simpa using fun z => b (.inl z))
  have e2 : p.2 = q.2 := strLt_tri (by simpa using fun z => a (.inr ⟨e, z⟩)) (by simpa using fun z => b (.inr ⟨e.symm, z⟩))
  exact Prod.ext e e2
theorem ltP_as {p q : Tie} (h : ltP p q = true) : ltP q p = false := by
  cases e : ltP q p with
  | false => rfl
  | true => have := ltP_tr h e; rw [ltP_irr] at this; cases this
theorem leP_tr (a b c : Tie) (h : leP a b = true) (h' : leP b c = true) : leP a c = true := by
  unfold leP at *
  cases e : ltP c a with
  | false => rfl
  | true =>
    cases e1 : ltP b a with
    | true => rw [e1] at h; cases h
    | false =>
      cases e2 : ltP a b with
      | true => rw [ltP_tr e e2] at h'; cases h'
      | false => rw [ltP_tri e1 e2, e] at h'; cases h'
theorem leP_tot (a b : Tie) : (leP a b || leP b a) = true := by
  unfold leP
  cases e : ltP b a with
  | false => rfl
  | true => rw [ltP_as e]; rfl
def sortP (l : List Tie) : List Tie := l.mergeSort leP
def AscP (l : List Tie) : Prop := l.Pairwise fun a b => ltP a b = true
theorem sortP_perm (l : List Tie) : (sortP l).Perm l := List.mergeSort_perm l leP
theorem sortP_le (l : List Tie) : (sortP l).Pairwise fun a b => leP a b = true := List.pairwise_mergeSort leP_tr leP_tot l
theorem sortP_asc {l : List Tie} (hn : l.Nodup) : AscP (sortP l) := by
  refine ((sortP_le l).and ((sortP_perm l).nodup_iff.mpr hn)).imp ?_
  rintro a b ⟨h1, h2⟩
  cases e : ltP a b with
  | true => rfl
  | false => exact absurd (ltP_tri e (by simpa [leP] using h1)) h2
/-! sorted of texts, of pairs of texts -/
def tieD (p : Tie) : PyData := .tuple [.str p.1, .str p.2]
theorem dataLe_tie (p q : Tie) : PySem.W.dataLe false id (tieD p) (tieD q) = leP p q := by
  rw [PySem.W.dataLe_eq]
  show (!PySem.W.dataLt (tieD q) (tieD p)) = _
  unfold tieD leP ltP
  rw [PySem.W.dataLt_pair (by simp [PySem.W.alike]) (by simp [PySem.W.alike]), PySem.W.dataLt_str, PySem.W.dataLt_str]
  simp only [PyData.eqv]
  by_cases h1 : q.1 = p.1
  · by_cases h2 : q.2 = p.2
    · simp [h1, h2, strLt]
    · simp [h1, h2, strLt]
  · simp [h1, strLt]
section
variable {X : Cx}
def rSortT (K : PySem.W.Frag) : List V → Hp → VK → Prop := fun vs H Q => ∃ (a : Addr) (zs : List Str), vs = [V.ref a] ∧ SqL K H a (zs.map V.str) ∧ zs.length ≤ sizeLine ∧ ∀ p, H p = none → Q (.ref p) (upd H p (.lst ((sortS zs).map V.str)))
theorem cr_sortT (hu : X.A.units + 64 < cLine) : CallR X (.builtin "sorted") (rSortT X.K) := by
  intro pins s σ H vs us Q I r h
  obtain ⟨a, zs, rfl, hs, hz, q⟩ := h
  have e1 : (zs.map fun z => (V.str z, PyData.str z)).map (·.1) = zs.map V.str := by rw [List.map_map]; rfl
  have e2 : (zs.map fun z => (V.str z, PyData.str z)).map (·.2) = zs.map PyData.str := by rw [List.map_map]; rfl
  refine cr_sortB hu pins s σ H _ us Q I r ⟨a, zs.map fun z => (V.str z, PyData.str z), rfl, by rw [e1]; exact hs, fun b hb => ?_, ?_, ?_, by rw [List.length_map]; exact hz, fun p hp => ?_⟩
  · obtain ⟨z, _, rfl⟩ := List.mem_map.mp hb
    exact ⟨Dp_flat rfl, by show PyData.depth (.str z) ≤ 50; rw [PyData.depth]; decide⟩
  · rw [e2]; exact PySem.W.AllAlike.of fun _ _ => by simp [PySem.W.alike]
  · rw [e2]; exact PySem.W.Sortable.others (enc := PyData.str) fun z => ⟨(fun e => nomatch e), fun xs e => nomatch e⟩
  · have e : (zs.map fun z => (V.str z, PyData.str z)).mergeSort (PySem.W.dataLe false (·.2)) = (sortS zs).map fun z => (V.str z, PyData.str z) := by
      refine (List.map_mergeSort fun a _ b _ => ?_).symm
      rw [PySem.W.dataLe_eq]
      show leS a b = !PySem.W.dataLt (.str b) (.str a)
      rw [PySem.W.dataLt_str]; rfl
    rw [e, List.map_map]
    exact q p hp

def TieAt (K : PySem.W.Frag) (H : Hp) (q : Addr) (p : Tie) : Prop := SqT K H q [.str p.1, .str p.2]
theorem zip_of {α β : Type} {F : α → β → Prop} : ∀ {xs : List α} {ys : List β}, Paired F xs ys → ∃ l : List (α × β), l.map (·.1) = xs ∧ l.map (·.2) = ys ∧ ∀ p ∈ l, F p.1 p.2
  | _, _, .nil => ⟨[], rfl, rfl, fun _ z => nomatch z⟩
  | _, _, .cons (a := a) (b := b) h t => by
    obtain ⟨l, rfl, rfl, h3⟩ := zip_of t
    refine ⟨(a, b) :: l, rfl, rfl, fun p hp => ?_⟩
    rcases List.mem_cons.mp hp with rfl | hp
    · exact h
    · exact h3 p hp
theorem paired_of {α β : Type} {F : α → β → Prop} : ∀ {l : List (α × β)}, (∀ p ∈ l, F p.1 p.2) → Paired F (l.map (·.1)) (l.map (·.2))
  | [], _ => .nil
  | p :: l, h => .cons (h p List.mem_cons_self) (paired_of fun q hq => h q (List.mem_cons_of_mem _ hq))
theorem paired_mem {α β : Type} {F : α → β → Prop} : ∀ {l : List (α × β)}, Paired F (l.map (·.1)) (l.map (·.2)) → ∀ p ∈ l, F p.1 p.2
  | [], _, _, z => nomatch z
  | q :: l, h, p, hp => by
    cases h with
    | cons h1 h2 =>
      rcases List.mem_cons.mp hp with rfl | hp
      · exact h1
      · exact paired_mem h2 p hp
def rSortTP (K : PySem.W.Frag) : List V → Hp → VK → Prop := fun vs H Q => ∃ (a : Addr) (qs : List Addr) (ps : List Tie), vs = [V.ref a] ∧ SqL K H a (qs.map V.ref) ∧ Paired (TieAt K H) qs ps ∧ ps.length ≤ sizeLine ∧
  ∀ p qs', H p = none → (∀ R : Addr → Tie → Prop, Paired R qs ps → Paired R qs' (sortP ps)) → Q (.ref p) (upd H p (.lst (qs'.map V.ref)))
theorem cr_sortTP (hu : X.A.units + 64 < cLine) : CallR X (.builtin "sorted") (rSortTP X.K) := by
  intro pins s σ H vs us Q I r h
  obtain ⟨a, qs, ps, rfl, hs, hp, hz, q⟩ := h
  obtain ⟨l, rfl, rfl, hl⟩ := zip_of hp
  have e1 : (l.map fun x => (V.ref x.1, tieD x.2)).map (·.1) = (l.map (·.1)).map V.ref := by rw [List.map_map, List.map_map]; rfl
  have e2 : (l.map fun x => (V.ref x.1, tieD x.2)).map (·.2) = (l.map (·.2)).map tieD := by rw [List.map_map, List.map_map]; rfl
  rw [List.length_map] at hz
  refine cr_sortB hu pins s σ H _ us Q I r ⟨a, l.map fun x => (V.ref x.1, tieD x.2), rfl, by rw [e1]; exact hs, fun b hb => ?_, ?_, ?_, by rw [List.length_map]; exact hz, fun p hp => ?_⟩
  · obtain ⟨z, hz, rfl⟩ := List.mem_map.mp hb
    refine ⟨.tup (hl z hz) (.cons (Dp_flat rfl) (.cons (Dp_flat rfl) .nil)), ?_⟩
    show PyData.depth (tieD z.2) ≤ 50
    unfold tieD
    simp [PyData.depth, PyData.depthAll]
  · rw [e2]; exact PySem.W.AllAlike.of fun _ _ => by simp [PySem.W.alike, PySem.W.alikeAll, tieD]
  · rw [e2]; exact PySem.W.Sortable.tuples (enc := tieD) fun z => ⟨_, _, rfl⟩
  · have e : (l.map fun x => (V.ref x.1, tieD x.2)).mergeSort (PySem.W.dataLe false (·.2)) = (l.mergeSort fun x y => leP x.2 y.2).map fun x => (V.ref x.1, tieD x.2) := by
      refine (List.map_mergeSort fun a _ b _ => ?_).symm
      exact (dataLe_tie a.2 b.2).symm
    have e3 : (l.mergeSort fun x y => leP x.2 y.2).map (·.2) = sortP (l.map (·.2)) := List.map_mergeSort fun a _ b _ => rfl
    rw [e, List.map_map]
    have := q p ((l.mergeSort fun x y => leP x.2 y.2).map (·.1)) hp (fun R hR => by
      rw [← e3]
      exact paired_of fun x hx => paired_mem hR x (List.mem_mergeSort.mp hx))
    rw [List.map_map] at this
    exact this
end
end Hw

set_option Elab.async false
set_option linter.all false
set_option maxRecDepth 100000
set_option maxHeartbeats 4000000
namespace Hw
open PySem L2 PyProof.Rows
abbrev sTie : Stmt := topS 38
def tieOf (a b : Str) : Tie := (if strLt b a = true then b else a, if strLt a b = true then b else a)
def spTie : Sp := fun vs H Q _ => ∃ a b : Str, vs = [.str a, .str b] ∧ ∀ p, H p = none → Q (.ref p) (upd H p (.tup [.str (tieOf a b).1, .str (tieOf a b).2]))
section
variable {P : Program} {w : World} {K : PySem.W.Frag} {mg : Str → Option Value} {base : Heap}
theorem scTie : FnScope ["one", "other"] ["one", "other"] (defScope sTie) := ⟨rfl, rfl, rfl, by decide +kernel, rfl, by decide +kernel, by decide +kernel⟩
theorem ok_tie {f : Addr} {fd : FuncData} {k : Nat} (F : Fun K "_law_tie" "_law_tie" sTie f fd) (B : Blt mg) : FnOk P w K mg base CX0 (k + 1) f fd ["one", "other"] spTie := by
  refine F.ok scTie (fun vs H Q E h => ?_) (fun cdv A outer s H vs Q E hr h => ?_)
  · obtain ⟨a, b, rfl, _⟩ := h
    rfl
  · obtain ⟨a, b, rfl, q⟩ := h
    refine ⟨_, pss_one (ps_ret (pe_tup (pa_cons (pe_callB (call_minS rfl) (by rfl) B.min PyProof.Rows.boot_min (pa_cons (pv 0) (pa_cons (pv 1) pa_nil))) (pa_cons (pe_callB (call_maxS rfl) (by rfl) B.max PyProof.Rows.boot_max (pa_cons (pv 0) (pa_cons (pv 1) pa_nil))) pa_nil)))), ?_⟩
    exact ⟨.str a, rfl, .str b, rfl, a, b, rfl, .str a, rfl, .str b, rfl, a, b, rfl, by show 2 ≤ sizeLine; decide, fun p hp => q p hp⟩

def encT (ts : List Tie) : List (List Key × V) := ts.map fun t => (([Sum.inr t.1, Sum.inr t.2] : List Key), V.bl true)
theorem encT_any (ts : List Tie) (t : Tie) : ((encT ts).any fun kv => decide (kv.1 = ([Sum.inr t.1, Sum.inr t.2] : List Key))) = decide (t ∈ ts) := by
  rw [encT, List.any_map, Bool.eq_iff_iff, List.any_eq_true, decide_eq_true_iff]
  constructor
  · rintro ⟨u, hu, e⟩
    have e' := of_decide_eq_true e
    injection e' with e1 e2
    injection e2 with e2 _
    injection e1 with e1
    injection e2 with e2
    exact (show u = t from Prod.ext e1 e2) ▸ hu
  · intro h
    exact ⟨t, h, decide_eq_true rfl⟩
theorem putT_tie (ts : List Tie) (t : Tie) : putK (encT ts) ([Sum.inr t.1, Sum.inr t.2] : List Key) (V.bl true) = encT (if t ∈ ts then ts else ts ++ [t]) := by
  unfold putK
  rw [encT_any]
  by_cases h : t ∈ ts
  · rw [if_pos (decide_eq_true h), if_pos h]
    unfold encT
    rw [List.map_map]
    refine List.map_congr_left fun u _ => ?_
    show (if _ then _ else _) = _
    split <;> rfl
  · rw [if_neg (by simpa using h), if_neg h]
    unfold encT
    rw [List.map_append]; rfl
theorem tieOf_lt {u v : Str} (h : u ≠ v) : strLt (tieOf u v).1 (tieOf u v).2 = true ∧ ((tieOf u v).1 = u ∨ (tieOf u v).1 = v) ∧ ((tieOf u v).2 = u ∨ (tieOf u v).2 = v) := by
  unfold tieOf
  cases e1 : strLt v u with
  | true =>
    rw [strLt_as e1]
    exact ⟨by simpa using e1, .inr (by simp), .inl (by simp)⟩
  | false =>
    cases e2 : strLt u v with
    | true => exact ⟨by simpa using e2, .inl (by simp), .inr (by simp)⟩
    | false => exact absurd (strLt_tri e2 e1) h
/-- a drawn web while it is drawn: its places at pl, its ties in the dict at d -/
def WB (a pl d : Addr) (ns : List Str) (H0 : Hp) (N c : Nat) (H : Hp) : Prop := SameX a H0 H ∧ Pot H a N ∧ H pl = some (.lst (ns.map V.str)) ∧ pl ≠ d ∧ pl ≠ a ∧ d ≠ a ∧ ∃ ts : List Tie, H d = some (.dT (encT ts)) ∧ ts.Nodup ∧ (∀ t ∈ ts, t.1 ∈ ns ∧ t.2 ∈ ns ∧ strLt t.1 t.2 = true) ∧ ts.length ≤ c
theorem WB.step {a pl d : Addr} {ns : List Str} {H0 H H' : Hp} {N N' c : Nat} (w : WB a pl d ns H0 N c H) (s : SameX a H H') (p : Pot H' a N') : WB a pl d ns H0 N' c H' := by
  obtain ⟨sx, hp, h1, n1, n2, n3, ts, h2, hr⟩ := w
  exact ⟨sx.trans s, p, s _ _ n2 h1, n1, n2, n3, ts, s _ _ n3 h2, hr⟩
theorem WB.mono {a pl d : Addr} {ns : List Str} {H0 H : Hp} {N N' c c' : Nat} (w : WB a pl d ns H0 N c H) (hN : N ≤ N') (hc : c ≤ c') : WB a pl d ns H0 N' c' H := by
  obtain ⟨sx, hp, h1, n1, n2, n3, ts, h2, h3, h4, h5⟩ := w
  exact ⟨sx, hp.mono hN, h1, n1, n2, n3, ts, h2, h3, h4, Nat.le_trans h5 hc⟩
theorem put_tie {a pl d : Addr} {ns : List Str} {H0 H : Hp} {N c : Nat} {u v : Str} {E : XK} {Q : Hp → Prop} (w : WB a pl d ns H0 N c H) (hd0 : H0 d = none) (hc : c ≤ 1000) (hu : u ∈ ns) (hv : v ∈ ns) (hne : u ≠ v)
    (q : ∀ Hn, WB a pl d ns H0 N (c + 1) Hn → Q Hn) : spTie [.str u, .str v] H (fun k H1 => ∃ d' Hn, V.ref d = .ref d' ∧ DPut H1 d' k (.bl true) Hn ∧ Q Hn) E := by
  obtain ⟨sx, hp, h1, n1, n2, n3, ts, h2, h3, h4, h5⟩ := w
  refine ⟨u, v, rfl, fun p hp0 => ?_⟩
  have npd : d ≠ p := ne_of_none h2 hp0
  have ed : (upd H p (.tup [.str (tieOf u v).1, .str (tieOf u v).2])) d = some (.dT (encT ts)) := by rw [upd_ne npd]; exact h2
  have et : (upd H p (.tup [.str (tieOf u v).1, .str (tieOf u v).2])) p = some (.tup (([Sum.inr (tieOf u v).1, Sum.inr (tieOf u v).2] : List Key).map kV)) := upd_same
  refine ⟨d, _, rfl, DPut.t ed et (by rw [encT, List.length_map]; exact small1000 (by omega)), q _ ?_⟩
  rw [putT_tie]
  obtain ⟨l1, l2, l3⟩ := tieOf_lt hne
  have m1 : (tieOf u v).1 ∈ ns := by rcases l2 with e | e <;> rw [e] <;> assumption
  have m2 : (tieOf u v).2 ∈ ns := by rcases l3 with e | e <;> rw [e] <;> assumption
  refine ⟨fun b o hb e => ?_, ?_, ?_, n1, n2, n3, _, upd_same, ?_, ?_, ?_⟩
  · have e1 : b ≠ d := ne_of_none e hd0
    have e2 := sx _ _ hb e
    rw [upd_ne e1, upd_ne (ne_of_none e2 hp0)]
    exact e2
  · obtain ⟨xx, yy, zz, e, hh⟩ := hp.ex
    exact ⟨xx, yy, zz, by rw [upd_ne (Ne.symm n3), upd_ne (ne_of_none e hp0)]; exact e, hh⟩
  · rw [upd_ne n1, upd_ne (ne_of_none h1 hp0)]; exact h1
  · by_cases hm : tieOf u v ∈ ts
    · rw [if_pos hm]; exact h3
    · rw [if_neg hm, List.nodup_append]
      exact ⟨h3, by simp, fun x hx y hy e => hm (by rw [List.mem_singleton.mp hy] at e; exact e ▸ hx)⟩
  · intro t ht
    by_cases hm : tieOf u v ∈ ts
    · rw [if_pos hm] at ht; exact h4 t ht
    · rw [if_neg hm] at ht
      rcases List.mem_append.mp ht with ht | ht
      · exact h4 t ht
      · rw [List.mem_singleton.mp ht]; exact ⟨m1, m2, l1⟩
  · by_cases hm : tieOf u v ∈ ts
    · rw [if_pos hm]; omega
    · rw [if_neg hm, List.length_append]
      show ts.length + 1 ≤ c + 1
      omega
end
end Hw

set_option Elab.async false
set_option linter.all false
set_option maxRecDepth 100000
set_option maxHeartbeats 4000000
namespace Hw
open PySem L2 PyProof.Rows
structure OwnW (ns : List Str) (ts : List Tie) : Prop where
  asc : Asc ns
  nm : ∀ z ∈ ns, Nm z
  few : ns.length ≤ 200
  tasc : AscP ts
  tie : ∀ t ∈ ts, t.1 ∈ ns ∧ t.2 ∈ ns ∧ strLt t.1 t.2 = true
  tfew : ts.length ≤ 1000
def WebAt (H : Hp) (p : Addr) (ns : List Str) (ts : List Tie) : Prop := ∃ (pl tl : Addr) (qs : List Addr), H p = some (.tup [.ref pl, .ref tl]) ∧ H pl = some (.lst (ns.map V.str)) ∧ H tl = some (.lst (qs.map V.ref)) ∧ Paired (fun q (t : Tie) => H q = some (.tup [.str t.1, .str t.2])) qs ts
theorem at_ns {ns : List Str} {r : Int} {j : Nat} (e : r = (j : Int)) (h : j < ns.length) : atI (ns.map V.str) r = some (.str ns[j]) := by
  subst e
  exact atI_nat (by rw [List.getElem?_map, List.getElem?_eq_getElem h]; rfl)
theorem at_last {ns : List Str} (h : 0 < ns.length) : atI (ns.map V.str) (-1) = some (.str (ns[ns.length - 1]'(by omega))) := by
  have hne : ns ≠ [] := fun e => by rw [e] at h; exact absurd h (by decide)
  have e1 : ns.map V.str = ns.dropLast.map V.str ++ [V.str (ns.getLast hne)] := by
    rw [← List.map_singleton, ← List.map_append, List.dropLast_concat_getLast]
  rw [e1, atI_last, List.getLast_eq_getElem]
theorem paired_mono {α β : Type} {F G : α → β → Prop} (h : ∀ x y, F x y → G x y) : ∀ {xs : List α} {ys : List β}, Paired F xs ys → Paired G xs ys
  | _, _, .nil => .nil
  | _, _, .cons a t => .cons (h _ _ a) (paired_mono h t)
theorem nodup_ne {ns : List Str} (h : ns.Nodup) {i j : Nat} (hi : i < ns.length) (hj : j < ns.length) (hij : i < j) : ns[i] ≠ ns[j] := List.pairwise_iff_getElem.mp h i j hi hj hij
theorem if_any {t : TT} {A B : TS} {D : Ends} {σ : L2.St} {H : Hp} (ht : ∀ Q : Bool → Hp → Prop, Q true H → Q false H → t σ H Q) (h1 : A D σ H) (h2 : B D σ H) : tIfS t A B D σ H :=
  ht _ (show if true = true then A D σ H else B D σ H by rw [if_pos rfl]; exact h1) (show if false = true then A D σ H else B D σ H by rw [if_neg Bool.false_ne_true]; exact h2)
theorem rs_rng {wi : TI} {g : TG} {tb u : TS} {D : Ends} {σ : L2.St} {H : Hp} (lo : Int) (n : Nat) (P0 : Hp → Prop) (Pv : Nat → L2.St → Hp → Prop) (hw : ∀ R : It → Hp → Prop, (∀ H1, P0 H1 → R (Itr lo n) H1) → wi σ H R) (h0 : ∀ H1, P0 H1 → Pv 0 σ H1)
    (hs : ∀ i σ H, i < n → Pv i σ H → g (.int (lo + i)) σ H fun σ2 H2 => tb { D with nx := Pv (i + 1), ct := Pv (i + 1), bk := u D } σ2 H2) (hd : ∀ σ H, Pv n σ H → u D σ H) : tSeq (tFor wi g tb) u D σ H :=
  hw _ fun H1 p => for_range (D := { D with nx := u D }) Pv (h0 H1 p) hs hd
theorem rs_if_put {t : TT} {A B u : TS} {D : Ends} {σ : L2.St} {H : Hp} (P1 : Bool → Hp → Prop) (P2 : Hp → Prop) (ht : ∀ Q : Bool → Hp → Prop, (∀ b H', P1 b H' → Q b H') → t σ H Q) (h3 : ∀ H', P2 H' → u D σ H')
    (h1 : ∀ (D' : Ends) H', (∀ H4, P2 H4 → D'.nx σ H4) → P1 true H' → A D' σ H') (h2 : ∀ (D' : Ends) H', (∀ H4, P2 H4 → D'.nx σ H4) → P1 false H' → B D' σ H') : tSeq (tIfS t A B) u D σ H :=
  ht _ fun b H' p => by
    show if b = true then A { D with nx := u D } σ H' else B { D with nx := u D } σ H'
    cases b with
    | true => rw [if_pos rfl]; exact h1 _ H' h3 p
    | false => rw [if_neg Bool.false_ne_true]; exact h2 _ H' h3 p
def sBl : Str := Str.ofString " "
def sNl : Str := Str.ofString "\n"
theorem paired_get {α β : Type} {F : α → β → Prop} : ∀ {xs : List α} {ys : List β} {i : Nat} {x : α}, Paired F xs ys → xs[i]? = some x → ∃ y, ys[i]? = some y ∧ F x y
  | _, _, _, _, .nil, e => by simp at e
  | _, _, 0, _, .cons a _, e => by simp at e; subst e; exact ⟨_, rfl, a⟩
  | _, _, i + 1, y, .cons _ t, e => by
    obtain ⟨x, h1, h2⟩ := paired_get (i := i) t (by simpa using e)
    exact ⟨x, by simpa using h1, h2⟩
theorem join_len (y : Str) : ∀ ps : List Str, (Txt.join y ps).length ≤ (ps.map (·.length)).sum + ps.length * y.length
  | [] => by rw [TL.join_eq]; exact Nat.zero_le _
  | [p] => by rw [TL.join_eq]; simp [Str.join]
  | p :: q :: r => by
    have ih := join_len y (q :: r)
    rw [TL.join_eq] at ih ⊢
    have e : Str.join y (p :: q :: r) = p ++ y ++ Str.join y (q :: r) := rfl
    rw [e, app_len, app_len]
    simp only [List.map_cons, List.sum_cons, List.length_cons] at ih ⊢
    have : (r.length + 1 + 1) * y.length = (r.length + 1) * y.length + y.length := by rw [Nat.add_mul (r.length + 1) 1, Nat.one_mul]
    omega
theorem sum_le {ps : List Str} {b : Nat} (h : ∀ p ∈ ps, p.length ≤ b) : (ps.map (·.length)).sum ≤ ps.length * b := by
  induction ps with
  | nil => exact Nat.zero_le _
  | cons p ps ih =>
    have h1 := h p List.mem_cons_self
    have h2 := ih fun q hq => h q (List.mem_cons_of_mem _ hq)
    rw [List.map_cons, List.sum_cons, List.length_cons, Nat.add_mul, Nat.one_mul]
    omega
def rJn (K : PySem.W.Frag) : V → List V → Hp → VK → Prop := fun x xs H Q => ∃ a p, ∃ ys : List Str, x = .str a ∧ xs = [.ref p] ∧ (SqL K H p (ys.map V.str) ∨ SqT K H p (ys.map V.str)) ∧ (ys.map (·.length)).sum + ys.length * a.length ≤ 16777216 ∧ Q (.str (Txt.join a ys)) H
theorem valV_names {g : Str → V} {ns : List Str} (w : Str) : valV (ns.map fun z => ((Sum.inr z : Key), g z)) (Sum.inr w) = if w ∈ ns then some (g w) else none := by
  induction ns with
  | nil => exact valV_nil
  | cons z ns ih =>
    rw [List.map_cons]
    by_cases h : z = w
    · subst h
      rw [valV_pos rfl, if_pos List.mem_cons_self]
    · rw [valV_neg (fun e => h (Sum.inr.inj e)), ih]
      by_cases hm : w ∈ ns
      · rw [if_pos hm, if_pos (List.mem_cons_of_mem _ hm)]
      · rw [if_neg hm, if_neg (fun e => by rcases List.mem_cons.mp e with rfl | e; exact h rfl; exact hm e)]
theorem mergeK_new : ∀ {more kvs : List (Key × V)}, ((kvs ++ more).map (·.1)).Nodup → mergeK kvs more = kvs ++ more
  | [], kvs, _ => by simp [mergeK]
  | p :: more, kvs, h => by
    have hn : valV kvs p.1 = none := by
      unfold valV
      rw [List.find?_eq_none.mpr]
      · rfl
      · intro q hq hc
        have e := of_decide_eq_true hc
        rw [List.map_append, List.nodup_append] at h
        exact h.2.2 q.1 (List.mem_map.mpr ⟨q, hq, rfl⟩) p.1 (List.mem_map.mpr ⟨p, List.mem_cons_self, rfl⟩) e
    have ih := mergeK_new (more := more) (kvs := kvs ++ [p]) (by rw [List.append_assoc]; exact h)
    show mergeK (putK kvs p.1 p.2) more = _
    rw [putK_new _ hn]
    exact ih.trans (by simp)
abbrev TieL (H : Hp) (q : Addr) (t : Tie) : Prop := H q = some (.tup [.str t.1, .str t.2])
theorem nodup_take {ns : List Str} (h : ns.Nodup) {i : Nat} {x : Str} (hx : ns[i]? = some x) : x ∉ ns.take i := by
  intro hm
  obtain ⟨j, hj, e⟩ := List.mem_iff_getElem.mp hm
  rw [List.length_take] at hj
  obtain ⟨hi, rfl⟩ := List.getElem?_eq_some_iff.mp hx
  rw [List.getElem_take] at e
  exact nodup_ne h (by omega) hi (by omega) e
theorem rs_list {K : PySem.W.Frag} {te : TE} {g : TG} {tb u : TS} {D : Ends} {σ : L2.St} {H : Hp} (a : Addr) (xs : List V) (ha : ∀ Q : VK, Q (.ref a) H → te σ H Q) (Pv : Nat → L2.St → Hp → Prop) (h0 : Pv 0 σ H) (hl : ∀ i σ H, i ≤ xs.length → Pv i σ H → SqL K H a xs)
    (hs : ∀ i x σ H, xs[i]? = some x → Pv i σ H → g x σ H fun σ2 H2 => tb { D with nx := Pv (i + 1), ct := Pv (i + 1), bk := u D } σ2 H2) (hd : ∀ σ H, Pv xs.length σ H → u D σ H) : tSeq (tFor (iList K te) g tb) u D σ H :=
  ha _ ⟨a, rfl, ⟨xs, hl 0 σ H (Nat.zero_le _) h0⟩, for_list (D := { D with nx := u D }) Pv h0 hl hs hd⟩
theorem rs_tup {K : PySem.W.Frag} {te : TE} {g : TG} {tb u : TS} {D : Ends} {σ : L2.St} {H : Hp} (a : Addr) (xs : List V) (ha : ∀ Q : VK, Q (.ref a) H → te σ H Q) (Pv : Nat → L2.St → Hp → Prop) (h0 : Pv 0 σ H) (hl : ∀ i σ H, i ≤ xs.length → Pv i σ H → SqT K H a xs)
    (hs : ∀ i x σ H, xs[i]? = some x → Pv i σ H → g x σ H fun σ2 H2 => tb { D with nx := Pv (i + 1), ct := Pv (i + 1), bk := u D } σ2 H2) (hd : ∀ σ H, Pv xs.length σ H → u D σ H) : tSeq (tFor (iTup K te) g tb) u D σ H :=
  ha _ ⟨a, rfl, ⟨xs, hl 0 σ H (Nat.zero_le _) h0⟩, for_tup (D := { D with nx := u D }) Pv h0 hl hs hd⟩
theorem map_get {α : Type} {g : α → V} {xs : List α} {i : Nat} {x : V} (h : (xs.map g)[i]? = some x) : ∃ z, xs[i]? = some z ∧ x = g z := by
  rw [List.getElem?_map] at h
  cases hh : xs[i]? with
  | none => rw [hh] at h; cases h
  | some z => rw [hh] at h; exact ⟨z, rfl, (Option.some.inj h).symm⟩
theorem take_snoc {α : Type} {xs : List α} {i : Nat} {x : α} (h : xs[i]? = some x) : xs.take (i + 1) = xs.take i ++ [x] := by rw [List.take_succ, h]; rfl
theorem paired_in {α β : Type} {F G : α → β → Prop} : ∀ {xs : List α} {ys : List β}, (∀ x y, y ∈ ys → F x y → G x y) → Paired F xs ys → Paired G xs ys
  | _, _, _, .nil => .nil
  | _, _, h, .cons a t => .cons (h _ _ List.mem_cons_self a) (paired_in (fun x y hy => h x y (List.mem_cons_of_mem _ hy)) t)
theorem paired_map {α β γ : Type} {F : α → γ → Prop} {g : β → γ} : ∀ {xs : List α} {ys : List β}, Paired (fun x y => F x (g y)) xs ys → Paired F xs (ys.map g)
  | _, _, .nil => .nil
  | _, _, .cons a t => .cons a (paired_map t)
theorem paired_snoc {α β : Type} {F : α → β → Prop} {x : α} {y : β} (f : F x y) : ∀ {xs : List α} {ys : List β}, Paired F xs ys → Paired F (xs ++ [x]) (ys ++ [y])
  | _, _, .nil => .cons f .nil
  | _, _, .cons h t => .cons h (paired_snoc f t)
theorem smallM {n : Nat} (h : n ≤ 100000) : n < sizeLine := by rw [sizeLine_eq]; omega
theorem filter_snoc {α : Type} {p : α → Bool} {xs : List α} {i : Nat} {x : α} (h : xs[i]? = some x) : (xs.take (i + 1)).filter p = (xs.take i).filter p ++ if p x = true then [x] else [] := by
  rw [take_snoc h, List.filter_append]
  congr 1
  by_cases hp : p x = true
  · rw [if_pos hp, List.filter_cons_of_pos hp, List.filter_nil]
  · rw [if_neg hp, List.filter_cons_of_neg hp, List.filter_nil]
theorem inV_str (z : Str) (zs : List Str) : inV (.str z) (zs.map V.str) = decide (z ∈ zs) := by
  unfold inV
  rw [List.any_map, Bool.eq_iff_iff, List.any_eq_true, decide_eq_true_iff]
  constructor
  · rintro ⟨y, hy, e⟩
    have e : (y == z) = true := e
    exact (beq_iff_eq.mp e) ▸ hy
  · intro h
    exact ⟨z, h, by show (z == z) = true; simp⟩
theorem rs_t {te : TE} {g : TG} {u : TS} {D : Ends} {σ : L2.St} {H : Hp} (h : te σ H fun x H1 => g x σ H1 (u D)) : tSeq (tAsg te g) u D σ H := h
theorem g2_of {K : PySem.W.Frag} {σ : L2.St} {H : Hp} {i j : Nat} {p : Addr} {x y : V} {R : L2.St → Hp → Prop} (e : SqT K H p [x, y]) (h : R ((σ.set i (some x)).set j (some y)) H) : gTup K 2 (gCons (gName i) (gCons (gName j) gNil)) (.ref p) σ H R :=
  ⟨p, [x, y], rfl, e, rfl, _, [y], rfl, _, [], rfl, rfl, h⟩
abbrev rLenS (K : PySem.W.Frag) : List V → Hp → VK → Prop := fun xs H Q => ∃ p ys, xs = [.ref p] ∧ (SqL K H p ys ∨ SqT K H p ys) ∧ Q (.int ys.length) H
theorem cps_mem {z : Str} {c : Nat} (h : c ∈ z.cps) : c ∈ z.cps.toList := by simpa using h
theorem nm_ok {z : Str} (h : Nm z) : PyData.strOk z = true := by
  unfold PyData.strOk
  refine Array.all_eq_true_iff_forall_mem.mpr fun c hc => ?_
  have := h.2.2 c (cps_mem hc)
  exact decide_eq_true (by omega)
theorem strs_lay {ns : List Str} (hnm : ∀ n ∈ ns, Nm n) : ∀ {xs : List Str}, (∀ x ∈ xs, x ∈ ns) → SeqAt.shaped (.list (xs.map PyData.str)) = true := by
  intro xs h
  have a : ∀ {xs : List Str}, (∀ x ∈ xs, x ∈ ns) → PyData.canLayAll0 (xs.map PyData.str) = true := by
    intro xs
    induction xs with
    | nil => intro _; rfl
    | cons x xs ih =>
      intro h
      show PyData.canLayAll0 (PyData.str x :: xs.map PyData.str) = true
      rw [PyData.canLayAll0, ih fun y hy => h y (List.mem_cons_of_mem _ hy), PyData.canLay0, nm_ok (hnm x (h x List.mem_cons_self))]; rfl
  have b : ∀ xs : List Str, PyData.depthAll (xs.map PyData.str) = 0 := by
    intro xs
    induction xs with
    | nil => rfl
    | cons x xs ih =>
      show PyData.depthAll (PyData.str x :: xs.map PyData.str) = 0
      rw [PyData.depthAll, ih, PyData.depth]; rfl
  unfold SeqAt.shaped
  rw [PyData.canLay0, a h, PyData.depth, b]; rfl
theorem strs_dp {K : PySem.W.Frag} {H : Hp} : ∀ xs : List Str, DpAll K H (xs.map V.str) (xs.map PyData.str)
  | [] => .nil
  | x :: xs => .cons (.str x) (strs_dp xs)
theorem rs_no {t : TT} {A u : TS} {D : Ends} {σ : L2.St} {H : Hp} (h : t σ H fun b H1 => if b = true then A { D with nx := u D } σ H1 else u D σ H1) : tSeq (tIfS t A tNext) u D σ H := h
theorem rs_no2 {t : TT} {A u : TS} {D : Ends} {σ : L2.St} {H : Hp} (R1 R2 : Hp → Prop) (ht : ∀ Q : Bool → Hp → Prop, (∀ H', R1 H' → Q true H') → (∀ H', R2 H' → Q false H') → t σ H Q) (h1 : ∀ H', R1 H' → A { D with nx := u D } σ H') (h2 : ∀ H', R2 H' → u D σ H') : tSeq (tIfS t A tNext) u D σ H :=
  rs_no (ht _ (fun H' r => by show if true = true then _ else _; rw [if_pos rfl]; exact h1 H' r) (fun H' r => by show if false = true then _ else _; rw [if_neg Bool.false_ne_true]; exact h2 H' r))
theorem rs_unV {K : PySem.W.Frag} {u : TS} {D : Ends} {σ : L2.St} {H : Hp} {k i j : Nat} {p : Addr} {x y : V} (h : σ[k]? = some (some (.ref p))) (e : SqT K H p [x, y]) (hu : u D ((σ.set i (some x)).set j (some y)) H) : tSeq (tAsg (tVar k) (gTup K 2 (gCons (gName i) (gCons (gName j) gNil)))) u D σ H :=
  ⟨.ref p, h, p, [x, y], rfl, e, rfl, _, [y], rfl, _, [], rfl, rfl, hu⟩
theorem r_cb {ta : TA} {r : List V → Hp → VK → Prop} {σ : L2.St} {H : Hp} {Q : VK} (h : ta σ H fun vs H1 => r vs H1 Q) : tCB r ta σ H Q := h
theorem rs_par3 {i j l : Nat} {ta : TA} {u : TS} {D : Ends} {σ : L2.St} {H : Hp} (h : ta σ H fun vs H1 => ∃ x y z, vs = [x, y, z] ∧ u D (((σ.set i (some x)).set j (some y)).set l (some z)) H1) : tSeq (tPar3 i j l ta) u D σ H := h
theorem pot_ne_refs {H : Hp} {a l : Addr} {N : Nat} {qs : List Addr} (h : Pot H a N) (e : H l = some (.lst (qs.map V.ref))) : a ≠ l := by
  rintro rfl
  obtain ⟨x, y, z, e', _⟩ := h.ex
  rw [e] at e'
  cases qs with
  | nil => cases e'
  | cons q qs => cases e'
theorem pot_ne_strs {H : Hp} {a l : Addr} {N : Nat} {zs : List Str} (h : Pot H a N) (e : H l = some (.lst (zs.map V.str))) : a ≠ l := by
  rintro rfl
  obtain ⟨x, y, z, e', _⟩ := h.ex
  rw [e] at e'
  cases zs with
  | nil => cases e'
  | cons q qs => cases e'
theorem pot_tup {H : Hp} {a b : Addr} {N : Nat} {k : List V} (h : Pot H a N) (e : H b = some (.tup k)) : b ≠ a := by
  rintro rfl
  obtain ⟨u, v, w, e1, _⟩ := h.ex
  rw [e1] at e; cases e
theorem TieL.sx {H H' : Hp} {a q : Addr} {N : Nat} {t : Tie} (hP : Pot H a N) (s : SameX a H H') (e : TieL H q t) : TieL H' q t := s _ _ (pot_tup hP e) e
theorem paired_ix2 {α β : Type} {F : α → β → Prop} : ∀ {xs : List α} {ys : List β}, xs.length = ys.length → (∀ (j : Nat) x y, xs[j]? = some x → ys[j]? = some y → F x y) → Paired F xs ys
  | [], [], _, _ => .nil
  | x :: xs, y :: ys, hl, h => .cons (h 0 x y rfl rfl) (paired_ix2 (Nat.succ.inj hl) fun j u v hu hv => h (j + 1) u v hu hv)
theorem paired_app {α β : Type} {F : α → β → Prop} : ∀ {xs : List α} {ys : List β} {us : List α} {vs : List β}, Paired F xs ys → Paired F us vs → Paired F (xs ++ us) (ys ++ vs)
  | _, _, _, _, .nil, h => h
  | _, _, _, _, .cons a t, h => .cons a (paired_app t h)
theorem cut_from1 (xs : List V) : cutV xs (some 1) none = xs.drop 1 := by
  unfold cutV
  have e1 : HT.sIx xs.length xs.length none = xs.length := rfl
  rw [e1]
  cases xs with
  | nil => rfl
  | cons x xs =>
    have e2 : HT.sIx (x :: xs).length 0 (some 1) = 1 := by
      unfold HT.sIx
      simp
      try omega
    rw [e2]
    exact List.take_of_length_le (by simp)
end Hw

set_option Elab.async false
set_option linter.all false
set_option maxRecDepth 100000
set_option maxHeartbeats 4000000
namespace Hw
open PySem L2 PyProof.Rows
/-! deeds -/
inductive Deed
  | come (n : Str) (ts : List Str)
  | die (n : Str)
def Deed.name : Deed → Str
  | .come n _ => n
  | .die n => n
def Deed.isCome : Deed → Bool
  | .come _ _ => true
  | .die _ => false
def Deed.ties : Deed → List Str
  | .come _ ts => ts
  | .die _ => []
def sCome : Str := Str.ofString "come"
def sDie : Str := Str.ofString "die"
def Deed.word : Deed → Str
  | .come _ _ => sCome
  | .die _ => sDie
def cameD (ds : List Deed) : List Str := ds.flatMap fun d => if d.isCome = true then [d.name] else []
def livStep (l : List Str) : Deed → List Str
  | .come n _ => l ++ [n]
  | .die n => l.filter fun z => decide (z ≠ n)
def liv (ds : List Deed) : List Str := ds.foldl livStep []
def deadD (ds : List Deed) : List Str := ds.flatMap fun d => if d.isCome = true then [] else [d.name]
/-- deeds that can stand -/
inductive Hist : List Deed → Prop
  | nil : Hist []
  | come {ds : List Deed} {n : Str} {ts : List Str} (h : Hist ds) (nm : Nm n) (new : n ∉ cameD ds) (asc : Asc ts) (sub : ∀ t ∈ ts, t ∈ liv ds) : Hist (ds ++ [.come n ts])
  | die {ds : List Deed} {n : Str} (h : Hist ds) (lv : n ∈ liv ds) : Hist (ds ++ [.die n])
theorem came_snoc (ds : List Deed) (d : Deed) : cameD (ds ++ [d]) = cameD ds ++ if d.isCome = true then [d.name] else [] := by
  unfold cameD
  rw [List.flatMap_append]; simp
theorem dead_snoc (ds : List Deed) (d : Deed) : deadD (ds ++ [d]) = deadD ds ++ if d.isCome = true then [] else [d.name] := by
  unfold deadD
  rw [List.flatMap_append]; simp
theorem liv_snoc (ds : List Deed) (d : Deed) : liv (ds ++ [d]) = livStep (liv ds) d := by
  unfold liv
  rw [List.foldl_append]; rfl
theorem Hist.liv_came {ds : List Deed} (h : Hist ds) : ∀ z ∈ liv ds, z ∈ cameD ds := by
  induction h with
  | nil => intro z hz; cases hz
  | come h nm new asc sub ih =>
    intro z hz
    rw [liv_snoc] at hz
    rw [came_snoc]
    rcases List.mem_append.mp hz with hz | hz
    · exact List.mem_append_left _ (ih z hz)
    · exact List.mem_append_right _ hz
  | die h lv ih =>
    intro z hz
    rw [liv_snoc] at hz
    rw [came_snoc]
    exact List.mem_append_left _ (ih z (List.mem_filter.mp hz).1)
theorem Hist.came_nodup {ds : List Deed} (h : Hist ds) : (cameD ds).Nodup := by
  induction h with
  | nil => exact List.nodup_nil
  | come h nm new asc sub ih =>
    rw [came_snoc, List.nodup_append]
    exact ⟨ih, by simp [Deed.isCome], fun x hx y hy e => new (by
      have e2 : y = _ := List.mem_singleton.mp (show y ∈ [_] from hy)
      rw [e, e2] at hx
      exact hx)⟩
  | die h lv ih =>
    rw [came_snoc]
    show (cameD _ ++ []).Nodup
    rw [List.append_nil]
    exact ih
theorem Hist.liv_nodup {ds : List Deed} (h : Hist ds) : (liv ds).Nodup := by
  induction h with
  | nil => exact List.nodup_nil
  | come h nm new asc sub ih =>
    rw [liv_snoc]
    show (_ ++ [_]).Nodup
    rw [List.nodup_append]
    exact ⟨ih, by simp, fun x hx y hy e => new (h.liv_came _ (by rw [List.mem_singleton.mp hy] at e; exact e ▸ hx))⟩
  | die h lv ih =>
    rw [liv_snoc]
    exact ih.filter _
theorem Hist.nm {ds : List Deed} (h : Hist ds) : ∀ z ∈ cameD ds, Nm z := by
  induction h with
  | nil => intro z hz; cases hz
  | come h nm new asc sub ih =>
    intro z hz
    rw [came_snoc] at hz
    rcases List.mem_append.mp hz with hz | hz
    · exact ih z hz
    · rw [List.mem_singleton.mp (show z ∈ [_] from hz)]; exact nm
  | die h lv ih =>
    intro z hz
    rw [came_snoc] at hz
    rcases List.mem_append.mp hz with hz | hz
    · exact ih z hz
    · cases hz
theorem came_len (ds : List Deed) : (cameD ds).length ≤ ds.length := by
  unfold cameD
  induction ds with
  | nil => exact Nat.le_refl _
  | cons d ds ih =>
    rw [List.flatMap_cons, List.length_append, List.length_cons]
    have : (if d.isCome = true then [d.name] else []).length ≤ 1 := by split <;> simp
    omega
theorem len_sub {xs ys : List Str} (h : ∀ z ∈ xs, z ∈ ys) (hn : xs.Nodup) : xs.length ≤ ys.length := sub_len hn h
theorem Hist.liv_len {ds : List Deed} (h : Hist ds) : (liv ds).length ≤ ds.length := Nat.le_trans (len_sub h.liv_came h.liv_nodup) (came_len ds)
/-- what each deed keeps -/
theorem Hist.each {ds : List Deed} (h : Hist ds) : ∀ d ∈ ds, Nm d.name ∧ d.ties.length ≤ ds.length ∧ (∀ t ∈ d.ties, Nm t) ∧ Asc d.ties := by
  induction h with
  | nil => intro d hd; cases hd
  | @come ds n ts h nm new asc sub ih =>
    intro d hd
    rw [List.length_append]
    rcases List.mem_append.mp hd with hd | hd
    · obtain ⟨a, b, c, e⟩ := ih d hd
      exact ⟨a, Nat.le_trans b (Nat.le_add_right _ _), c, e⟩
    · rw [List.mem_singleton.mp hd]
      exact ⟨nm, Nat.le_trans (Nat.le_trans (len_sub sub asc.nodup) h.liv_len) (Nat.le_add_right _ _), fun t ht => h.nm t (h.liv_came t (sub t ht)), asc⟩
  | @die ds n h lv ih =>
    intro d hd
    rw [List.length_append]
    rcases List.mem_append.mp hd with hd | hd
    · obtain ⟨a, b, c, e⟩ := ih d hd
      exact ⟨a, Nat.le_trans b (Nat.le_add_right _ _), c, e⟩
    · rw [List.mem_singleton.mp hd]
      exact ⟨h.nm n (h.liv_came n lv), Nat.zero_le _, (fun _ z => nomatch z), .nil⟩
theorem Hist.pre {ds : List Deed} {d : Deed} (h : Hist (ds ++ [d])) : Hist ds := by
  generalize e : ds ++ [d] = es at h
  cases h with
  | nil => simp at e
  | come h _ _ _ _ =>
    obtain ⟨e1, _⟩ := List.append_inj' e rfl
    rw [e1]; exact h
  | die h _ =>
    obtain ⟨e1, _⟩ := List.append_inj' e rfl
    rw [e1]; exact h
theorem Hist.take {ds : List Deed} (h : Hist ds) (i : Nat) : Hist (ds.take i) := by
  induction h with
  | nil => rw [List.take_nil]; exact .nil
  | @come ds n ts h nm new asc sub ih =>
    by_cases hi : i ≤ ds.length
    · rw [List.take_append_of_le_length hi]; exact ih
    · rw [List.take_of_length_le (by rw [List.length_append]; show ds.length + 1 ≤ i; omega)]
      exact .come h nm new asc sub
  | @die ds n h lv ih =>
    by_cases hi : i ≤ ds.length
    · rw [List.take_append_of_le_length hi]; exact ih
    · rw [List.take_of_length_le (by rw [List.length_append]; show ds.length + 1 ≤ i; omega)]
      exact .die h lv
/-- a come in its place -/
theorem Hist.come_at {ds : List Deed} (h : Hist ds) {i : Nat} {n : Str} {ts : List Str} (e : ds[i]? = some (.come n ts)) : Nm n ∧ n ∉ cameD (ds.take i) ∧ Asc ts ∧ ∀ t ∈ ts, t ∈ liv (ds.take i) := by
  have h1 := h.take (i + 1)
  rw [take_snoc e] at h1
  generalize e0 : ds.take i = l at h1 ⊢
  generalize e1 : l ++ [Deed.come n ts] = es at h1
  cases h1 with
  | nil => simp at e1
  | come h nm new asc sub =>
    obtain ⟨e2, e3⟩ := List.append_inj' e1 rfl
    cases e3
    subst e2
    exact ⟨nm, new, asc, sub⟩
  | die h lv =>
    obtain ⟨_, e3⟩ := List.append_inj' e1 rfl
    cases e3
theorem Hist.die_at {ds : List Deed} (h : Hist ds) {i : Nat} {n : Str} (e : ds[i]? = some (.die n)) : n ∈ liv (ds.take i) := by
  have h1 := h.take (i + 1)
  rw [take_snoc e] at h1
  generalize e0 : ds.take i = l at h1 ⊢
  generalize e1 : l ++ [Deed.die n] = es at h1
  cases h1 with
  | nil => simp at e1
  | come h nm new asc sub =>
    obtain ⟨_, e3⟩ := List.append_inj' e1 rfl
    cases e3
  | die h lv =>
    obtain ⟨e2, e3⟩ := List.append_inj' e1 rfl
    cases e3
    subst e2
    exact lv
/-- a deed as it lies -/
def DeedAt (H : Hp) (q : Addr) : Deed → Prop
  | .come n ts => ∃ tq, H q = some (.tup [.str sCome, .str n, .ref tq]) ∧ H tq = some (.tup (ts.map V.str))
  | .die n => H q = some (.tup [.str sDie, .str n])
theorem DeedAt.keep {H H' : Hp} {q : Addr} (s : Same H H') : ∀ {d : Deed}, DeedAt H q d → DeedAt H' q d
  | .come _ _, ⟨tq, h1, h2⟩ => ⟨tq, s _ _ h1, s _ _ h2⟩
  | .die _, h => s _ _ h
theorem DeedAt.sx {H H' : Hp} {a q : Addr} {N : Nat} (hP : Pot H a N) (s : SameX a H H') : ∀ {d : Deed}, DeedAt H q d → DeedAt H' q d
  | .come _ _, ⟨tq, h1, h2⟩ => ⟨tq, s _ _ (pot_tup hP h1) h1, s _ _ (pot_tup hP h2) h2⟩
  | .die _, h => s _ _ (pot_tup hP h) h
/-- the list of deeds as it lies -/
def DeedsAt (H : Hp) (l : Addr) (ds : List Deed) : Prop := ∃ qs : List Addr, H l = some (.lst (qs.map V.ref)) ∧ Paired (DeedAt H) qs ds
theorem DeedsAt.keep {H H' : Hp} {l : Addr} {ds : List Deed} (h : DeedsAt H l ds) (s : Same H H') : DeedsAt H' l ds := by
  obtain ⟨qs, h1, h2⟩ := h
  exact ⟨qs, s _ _ h1, paired_mono (fun q d e => e.keep s) h2⟩
theorem DeedsAt.sx {H H' : Hp} {a l : Addr} {N : Nat} {ds : List Deed} (h : DeedsAt H l ds) (hP : Pot H a N) (s : SameX a H H') : DeedsAt H' l ds := by
  obtain ⟨qs, h1, h2⟩ := h
  exact ⟨qs, s _ _ (Ne.symm (pot_ne_refs hP h1)) h1, paired_mono (fun q d e => e.sx hP s) h2⟩
/-- its first word and its name, whatever it is -/
theorem DeedAt.two {K : PySem.W.Frag} {H : Hp} {q : Addr} : ∀ {d : Deed}, DeedAt H q d → ∃ more : List V, H q = some (.tup (.str d.word :: .str d.name :: more))
  | .come _ _, ⟨tq, h1, _⟩ => ⟨[.ref tq], h1⟩
  | .die _, h => ⟨[], h⟩
theorem word_come (d : Deed) : decide (V.str d.word = V.str (Str.ofString "come")) = d.isCome := by
  cases d with
  | come n ts => exact decide_eq_true rfl
  | die n =>
    refine decide_eq_false fun e => ?_
    injection e with e
    exact absurd (show sDie = Str.ofString "come" from e) (by decide +kernel)
end Hw

set_option Elab.async false
set_option linter.all false
set_option maxRecDepth 100000
set_option maxHeartbeats 4000000
namespace Hw
open PySem L2 PyProof.Rows
abbrev sHText : Stmt := topS 39
def deedLine (d : Deed) : Str := Txt.join sBl (d.word :: d.name :: d.ties)
def histText (ds : List Deed) : Str := Txt.join sNl (ds.map deedLine)
def spHText : Sp := fun vs H Q _ => ∃ (l : Addr) (ds : List Deed), vs = [.ref l] ∧ DeedsAt H l ds ∧ Hist ds ∧ ds.length ≤ 100 ∧ ∀ H', Same H H' → Q (.str (histText ds)) H'
theorem deed_sum {ds : List Deed} {d : Deed} (h : Nm d.name ∧ d.ties.length ≤ ds.length ∧ (∀ t ∈ d.ties, Nm t) ∧ Asc d.ties) (hl : ds.length ≤ 100) : ((d.word :: d.name :: d.ties).map (·.length)).sum + (d.word :: d.name :: d.ties).length * sBl.length ≤ 1000 := by
  obtain ⟨h1, h2, h3, _⟩ := h
  have hw : d.word.length ≤ 8 := by
    cases d with
    | come n ts => exact show sCome.length ≤ 8 by decide +kernel
    | die n => exact show sDie.length ≤ 8 by decide +kernel
  have hs := sum_le (ps := d.word :: d.name :: d.ties) (b := 8) fun p hp => by
    rcases List.mem_cons.mp hp with rfl | hp
    · exact hw
    · rcases List.mem_cons.mp hp with rfl | hp
      · exact h1.2.1
      · exact (h3 p hp).2.1
  have e1 : sBl.length = 1 := by decide +kernel
  have el : (d.word :: d.name :: d.ties).length = d.ties.length + 2 := rfl
  rw [el] at hs ⊢
  rw [e1]
  omega
theorem deedLine_len {ds : List Deed} {d : Deed} (h : Nm d.name ∧ d.ties.length ≤ ds.length ∧ (∀ t ∈ d.ties, Nm t) ∧ Asc d.ties) (hl : ds.length ≤ 100) : (deedLine d).length ≤ 1000 := Nat.le_trans (join_len _ _) (deed_sum h hl)
theorem hist_sum {ds : List Deed} (h : Hist ds) (hl : ds.length ≤ 100) : ((ds.map deedLine).map (·.length)).sum + (ds.map deedLine).length * sNl.length ≤ 200000 := by
  have hs := sum_le (ps := ds.map deedLine) (b := 1000) fun p hp => by
    obtain ⟨d, hd, rfl⟩ := List.mem_map.mp hp
    exact deedLine_len (h.each d hd) hl
  have e1 : sNl.length = 1 := by decide +kernel
  rw [List.length_map] at hs ⊢
  rw [e1]
  omega
section
variable {P : Program} {w : World} {K : PySem.W.Frag} {mg : Str → Option Value} {base : Heap}
theorem scHText : FnScope ["deeds", "rows", "deed"] ["deeds"] (defScope sHText) := ⟨rfl, rfl, rfl, by decide +kernel, rfl, by decide +kernel, by decide +kernel⟩
theorem ok_htext {f : Addr} {fd : FuncData} {k : Nat} (F : Fun K "_law_history_text" "_law_history_text" sHText f fd) (B : Blt mg) : FnOk P w K mg base CX0 (k + 1) f fd ["deeds"] spHText := by
  refine F.ok scHText (fun vs H Q E h => ?_) (fun cdv A outer s H vs Q E hr h => ?_)
  · obtain ⟨l, ds, rfl, _⟩ := h
    rfl
  · obtain ⟨l, ds, rfl, ⟨qs, e1, e2⟩, hH, hl, q⟩ := h
    refine ⟨_, pss_cons (ps_set (i := 1) scHText.nd rfl (.inl rfl) (pe_lst pa_nil))
      (pss_cons (ps_for PassesOwn.never rfl (pi_list (pv 0)) (pg_name (i := 2) scHText.nd rfl (.inl rfl))
        (pss_one (ps_expr (pe_bm PySem.F.plainAttrs_list PySem.F.slot_list_append PySem.F.type_list_append mt_append (pv 1) (pa_cons (pe_join pe_str (pe_op op_cat (pe_lst (pa_cons (pe_ix ix_tup (pv 2) pe_int (fun _ _ => rfl)) (pa_cons (pe_ix ix_tup (pv 2) pe_int (fun _ _ => rfl)) pa_nil)))
          (pe_ifExp (pt_cmpR op_eq (pe_ix ix_tup (pv 2) pe_int (fun _ _ => rfl)) pe_str (nomark _)) (pe_callTy call_list_of (by rfl) B.list PyProof.Rows.boot_list (pa_cons (pe_ix ix_tup (pv 2) pe_int (fun _ _ => rfl)) pa_nil)) (pe_lst pa_nil)))) pa_nil)))))
      (pss_one (ps_ret (pe_join pe_str (pv 1))))), ?_⟩
    refine rs_set ?_
    refine ⟨Nat.zero_le _, fun r nr => ?_⟩
    refine rs_list l (qs.map V.ref) (fun Q1 q1 => ⟨_, rfl, q1⟩) (fun i σ' H' => ∃ o2, σ' = [some (.ref l), some (.ref r), o2] ∧ Same H H' ∧ H' r = some (.lst (((ds.take i).map deedLine).map V.str)))
      ⟨_, rfl, same_upd nr, upd_same⟩ (fun i σ' H' _ ⟨_, _, sx, _⟩ => sql_of (sx _ _ e1)) ?_ ?_
    · rintro i x σ' H' hx ⟨o2, rfl, sx, eR⟩
      obtain ⟨qd, hq, rfl⟩ := map_get hx
      obtain ⟨d, hd, ed⟩ := paired_get e2 hq
      have ed := ed.keep sx
      have he := hH.each d (List.mem_of_getElem? hd)
      have hi : i < ds.length := (List.getElem?_eq_some_iff.mp hd).1
      obtain ⟨more, em⟩ := ed.two (K := K)
      refine r_gname ?_
      refine ⟨.ref r, rfl, .inl ⟨rfl, _, sql_of eR⟩, ?_⟩
      refine ⟨⟨_, rfl⟩, .ref qd, rfl, qd, _, 0, .str d.word, rfl, rfl, sqt_of em, atI_nat (j := 0) rfl, .ref qd, rfl, qd, _, 1, .str d.name, rfl, rfl, sqt_of em, atI_nat (j := 1) rfl, by show 2 ≤ sizeLine; decide, fun l1 n1 => ?_⟩
      have s1 := same_upd (o := .lst [.str d.word, .str d.name]) n1
      refine ⟨.ref qd, rfl, qd, _, 0, .str d.word, rfl, rfl, sqt_of (s1 _ _ em), atI_nat (j := 0) rfl, rfl, _, congrArg V.bl (word_come d), ?_⟩
      -- the third part
      have fin : ∀ (l2 : Addr) (H2 : Hp), Same H' H2 → H2 l1 = some (.lst [.str d.word, .str d.name]) → H2 l2 = some (.lst (d.ties.map V.str)) → rCat (.ref l1) (.ref l2) H2 fun x H3 => rJn K (.str (Str.ofString " ")) [x] H3 fun y H4 => rAppend (.ref r) [y] H4 fun _ H5 => ∃ o2, ([some (.ref l), some (.ref r), some (.ref qd)] : L2.St) = [some (.ref l), some (.ref r), o2] ∧ Same H H5 ∧ H5 r = some (.lst (((ds.take (i + 1)).map deedLine).map V.str)) := by
        intro l2 H2 s2 f1 f2
        refine ⟨l1, l2, _, _, rfl, rfl, f1, f2, Nat.le_of_lt (smallM (by rw [List.length_map]; show 2 + _ ≤ _; have := he.2.1; omega)), fun l3 n3 => ?_⟩
        refine ⟨Str.ofString " ", l3, d.word :: d.name :: d.ties, rfl, rfl, .inl (sql_of upd_same), Nat.le_trans (deed_sum he hl) (by decide), ?_⟩
        have s3 := s2.trans (same_upd (o := .lst ([.str d.word, .str d.name] ++ d.ties.map V.str)) n3)
        refine ⟨r, _, _, rfl, rfl, s3 _ _ eR, smallM (by rw [List.length_map, List.length_map, List.length_take]; omega), _, rfl, fun b o e => ?_, ?_⟩
        · rw [upd_ne (ne_of_none e nr)]; exact s3 _ _ (sx _ _ e)
        · rw [upd_same, take_snoc hd, List.map_append, List.map_append]; rfl
      cases d with
      | come n ts =>
        obtain ⟨tq, g1, g2⟩ := ed
        show if true = true then _ else _
        rw [if_pos rfl]
        refine ⟨.ref qd, rfl, qd, _, 2, .ref tq, rfl, rfl, sqt_of (s1 _ _ g1), rfl, tq, _, rfl, .inr (sqt_of (s1 _ _ g2)), fun l2 n2 => ?_⟩
        exact fin l2 _ (s1.trans (same_upd n2)) ((same_upd n2) _ _ upd_same) upd_same
      | die n =>
        show if false = true then _ else _
        rw [if_neg Bool.false_ne_true]
        refine ⟨Nat.zero_le _, fun l2 n2 => ?_⟩
        exact fin l2 _ (s1.trans (same_upd n2)) ((same_upd n2) _ _ upd_same) upd_same
    · rintro σ' H' ⟨o2, rfl, sx, eR⟩
      rw [List.length_map, Paired.length e2, List.take_length] at eR
      exact ⟨⟨_, rfl⟩, .ref r, rfl, Str.ofString "\n", r, ds.map deedLine, rfl, rfl, .inl (sql_of eR), Nat.le_trans (hist_sum hH hl) (by decide), q H' sx⟩
end
end Hw

set_option Elab.async false
set_option linter.all false
set_option maxRecDepth 100000
set_option maxHeartbeats 4000000
namespace Hw
open PySem L2 PyProof.Rows
abbrev sLiving : Stmt := topS 40
/-- a dict of names, True at each -/
def encL (ns : List Str) : List (Key × V) := ns.map fun n => ((Sum.inr n : Key), V.bl true)
theorem encL_val (ns : List Str) (z : Str) : valV (encL ns) (Sum.inr z) = if z ∈ ns then some (V.bl true) else none := valV_names (g := fun _ => V.bl true) z
theorem encL_new {ns : List Str} {z : Str} (h : z ∉ ns) : putK (encL ns) (Sum.inr z) (V.bl true) = encL (ns ++ [z]) := by
  rw [putK_new _ (by rw [encL_val, if_neg h])]
  unfold encL
  rw [List.map_append]; rfl
theorem encL_drop (ns : List Str) (z : Str) : dropK (encL ns) (Sum.inr z : Key) = encL (ns.filter fun y => decide (y ≠ z)) := by
  unfold dropK encL
  rw [List.filter_map]
  congr 1
  refine List.filter_congr fun y _ => ?_
  show decide ((Sum.inr y : Key) ≠ Sum.inr z) = decide (y ≠ z)
  rw [decide_eq_decide]
  exact ⟨fun h e => h (by rw [e]), fun h e => h (Sum.inr.inj e)⟩
theorem encL_keys (ns : List Str) : (encL ns).map (fun kv => kV kv.1) = ns.map V.str := by
  unfold encL
  rw [List.map_map]; rfl
theorem encL_len (ns : List Str) : (encL ns).length = ns.length := by
  unfold encL
  rw [List.length_map]
def spLiving : Sp := fun vs H Q _ => ∃ (l : Addr) (ds : List Deed), vs = [.ref l] ∧ DeedsAt H l ds ∧ Hist ds ∧ ds.length ≤ 100 ∧ ∀ p H', Same H H' → H p = none → H' p = some (.lst ((sortS (liv ds)).map V.str)) → Q (.ref p) H'
theorem Hist.liv_take {ds : List Deed} (h : Hist ds) (i : Nat) : (liv (ds.take i)).length ≤ ds.length := Nat.le_trans (h.take i).liv_len (by rw [List.length_take]; omega)
section
variable {P : Program} {w : World} {K : PySem.W.Frag} {mg : Str → Option Value} {base : Heap}
theorem scLiving : FnScope ["deeds", "found", "deed"] ["deeds"] (defScope sLiving) := ⟨rfl, rfl, rfl, by decide +kernel, rfl, by decide +kernel, by decide +kernel⟩
theorem ok_living {f : Addr} {fd : FuncData} {k : Nat} (F : Fun K "_law_living" "_law_living" sLiving f fd) (B : Blt mg) (bs : mg "sorted" = none) : FnOk P w K mg base CX0 (k + 1) f fd ["deeds"] spLiving := by
  refine F.ok scLiving (fun vs H Q E h => ?_) (fun cdv A outer s H vs Q E hr h => ?_)
  · obtain ⟨l, ds, rfl, _⟩ := h
    rfl
  · obtain ⟨l, ds, rfl, ⟨qs, e1, e2⟩, hH, hl, q⟩ := h
    have hu := hu_of hr
    have hu64 := hr.units
    refine ⟨_, pss_cons (ps_set (i := 1) scLiving.nd rfl (.inl rfl) pe_dnewK)
      (pss_cons (ps_for PassesOwn.never rfl (pi_list (pv 0)) (pg_name (i := 2) scLiving.nd rfl (.inl rfl))
        (pss_one (ps_if (pt_cmpR op_eq (pe_ix ix_tup (pv 2) pe_int (fun _ _ => rfl)) pe_str (nomark _))
          (pss_one (ps_dput hu (pv 1) (pe_ix ix_tup (pv 2) pe_int (fun _ _ => rfl)) pe_bl rfl))
          (pss_one (ps_expr (pe_dpop1 (pv 1) (pe_ix ix_tup (pv 2) pe_int (fun _ _ => rfl)) ⟨rfl, by rfl, by rfl, by rfl⟩))))))
      (pss_one (ps_ret (pe_callB (cr_sortT hu64) (by rfl) bs (by decide +kernel) (pa_cons (pe_callTy (call_list_dK rfl) (by rfl) B.list PyProof.Rows.boot_list (pa_cons (pv 1) pa_nil)) pa_nil))))), ?_⟩
    refine rs_set ?_
    intro fo nfo
    refine rs_list l (qs.map V.ref) (fun Q1 q1 => ⟨_, rfl, q1⟩) (fun i σ' H' => ∃ o2, σ' = [some (.ref l), some (.ref fo), o2] ∧ Same H H' ∧ H' fo = some (.dK (encL (liv (ds.take i)))))
      ⟨_, rfl, same_upd nfo, upd_same⟩ (fun i σ' H' _ ⟨_, _, sx, _⟩ => sql_of (sx _ _ e1)) ?_ ?_
    · rintro i x σ' H' hx ⟨o2, rfl, sx, eF⟩
      obtain ⟨qd, hq, rfl⟩ := map_get hx
      obtain ⟨d, hd, ed⟩ := paired_get e2 hq
      have ed := ed.keep sx
      have hll := hH.liv_take i
      obtain ⟨more, em⟩ := ed.two (K := K)
      refine r_gname ?_
      refine ⟨.ref qd, rfl, qd, _, 0, .str d.word, rfl, rfl, sqt_of em, atI_nat (j := 0) rfl, rfl, _, congrArg V.bl (word_come d), ?_⟩
      have sput : ∀ o : HO, Same H (upd H' fo o) := fun o b u e => by
        rw [upd_ne (ne_of_none e nfo)]; exact sx _ _ e
      have et : liv (ds.take (i + 1)) = livStep (liv (ds.take i)) d := by rw [take_snoc hd, liv_snoc]
      cases d with
      | come n ts =>
        obtain ⟨hn, hnew, _, _⟩ := hH.come_at hd
        show if true = true then _ else _
        rw [if_pos rfl]
        refine ⟨.ref fo, rfl, .ref qd, rfl, qd, _, 1, .str n, rfl, rfl, sqt_of em, atI_nat (j := 1) rfl, fo, _, rfl, DPut.k (k := Sum.inr n) eF (smallM (by rw [encL_len]; omega)), _, rfl, sput _, ?_⟩
        rw [upd_same, encL_new (fun m => hnew ((hH.take i).liv_came n m)), et]; rfl
      | die n =>
        have hlv := hH.die_at hd
        show if false = true then _ else _
        rw [if_neg Bool.false_ne_true]
        refine ⟨.ref fo, rfl, fo, rfl, .inl ⟨_, .inl eF⟩, .ref qd, rfl, qd, _, 1, .str n, rfl, rfl, sqt_of em, atI_nat (j := 1) rfl, _, Sum.inr n, .bl true, eF, rfl, by rw [encL_val, if_pos hlv], _, rfl, sput _, ?_⟩
        rw [upd_same, encL_drop, et]; rfl
    · rintro σ' H' ⟨o2, rfl, sx, eF⟩
      rw [List.length_map, Paired.length e2, List.take_length] at eF
      have hll := hH.liv_len
      refine ⟨.ref fo, rfl, fo, _, rfl, eF, fun p1 n1 => ?_⟩
      rw [encL_keys]
      refine ⟨p1, liv ds, rfl, sql_of upd_same, Nat.le_of_lt (smallM (by omega)), fun p2 n2 => ?_⟩
      have s2 := (sx.trans (same_upd (o := .lst ((liv ds).map V.str)) n1)).trans (same_upd (o := .lst ((sortS (liv ds)).map V.str)) n2)
      exact q p2 _ s2 ((sx.trans (same_upd n1)).free n2) upd_same
end
end Hw

set_option Elab.async false
set_option linter.all false
set_option maxRecDepth 100000
set_option maxHeartbeats 4000000
namespace Hw
open PySem L2 PyProof.Rows
abbrev sElder : Stmt := topS 41
abbrev sCounts : Stmt := topS 42
/-! counts of elder ties -/
def cntStep (c : Str → Nat) : Deed → Str → Nat
  | .come n ts => fun z => (if z = n then ts.length else c z) + if z ∈ ts then 1 else 0
  | .die _ => c
def cntD (ds : List Deed) : Str → Nat := ds.foldl cntStep fun _ => 0
theorem cnt_snoc (ds : List Deed) (d : Deed) : cntD (ds ++ [d]) = cntStep (cntD ds) d := by
  unfold cntD
  rw [List.foldl_append]; rfl
def encF' (ns : List Str) (g : Str → V) : List (Key × V) := ns.map fun n => ((Sum.inr n : Key), g n)
theorem encF_val (ns : List Str) (g : Str → V) (z : Str) : valV (encF' ns g) (Sum.inr z) = if z ∈ ns then some (g z) else none := valV_names (g := g) z
theorem encF_new {ns : List Str} {g : Str → V} {z : Str} {v : V} (h : z ∉ ns) : putK (encF' ns g) (Sum.inr z) v = encF' (ns ++ [z]) fun y => if y = z then v else g y := by
  rw [putK_new _ (by rw [encF_val, if_neg h])]
  unfold encF'
  rw [List.map_append]
  congr 1
  · exact List.map_congr_left fun n hn => by
      show _ = ((Sum.inr n : Key), if n = z then v else g n)
      rw [if_neg (fun e => h (by rw [← e]; exact hn))]
  · simp
theorem encF_old {ns : List Str} {g : Str → V} {z : Str} {v : V} (h : z ∈ ns) : putK (encF' ns g) (Sum.inr z) v = encF' ns fun y => if y = z then v else g y := by
  unfold putK
  rw [valV_any, encF_val, if_pos h]
  show (if true = true then _ else _) = _
  rw [if_pos rfl]
  unfold encF'
  rw [List.map_map]
  refine List.map_congr_left fun n _ => ?_
  show (if (Sum.inr n : Key) = Sum.inr z then ((Sum.inr n : Key), v) else _) = ((Sum.inr n : Key), if n = z then v else g n)
  by_cases e : n = z
  · rw [if_pos (by rw [e]), if_pos e]
  · rw [if_neg (fun q => e (Sum.inr.inj q)), if_neg e]
theorem encF_congr {ns : List Str} {f g : Str → V} (h : ∀ n ∈ ns, f n = g n) : encF' ns f = encF' ns g := List.map_congr_left fun n hn => by rw [h n hn]
theorem encF_len (ns : List Str) (g : Str → V) : (encF' ns g).length = ns.length := List.length_map _
abbrev natV (c : Str → Nat) : Str → V := fun z => V.int (c z : Nat)
theorem Hist.came_take {ds : List Deed} (h : Hist ds) (i : Nat) : (cameD (ds.take i)).length ≤ ds.length := Nat.le_trans (came_len _) (by rw [List.length_take]; omega)
def spCounts : Sp := fun vs H Q _ => ∃ (l : Addr) (ds : List Deed), vs = [.ref l] ∧ DeedsAt H l ds ∧ Hist ds ∧ ds.length ≤ 100 ∧ ∀ d H', Same H H' → H d = none → H' d = some (.dK (encF' (cameD ds) (natV (cntD ds)))) → Q (.ref d) H'
def spDead : Sp := fun vs H Q _ => ∃ (l : Addr) (ds : List Deed), vs = [.ref l] ∧ DeedsAt H l ds ∧ Hist ds ∧ ds.length ≤ 100 ∧ ∀ p H', Same H H' → H p = none → H' p = some (.lst ((sortS (deadD ds)).map V.str)) → Q (.ref p) H'
def elderT (ds : List Deed) : List Tie := ds.flatMap fun d => d.ties.map fun t => tieOf d.name t
theorem elder_snoc (ds : List Deed) (d : Deed) : elderT (ds ++ [d]) = elderT ds ++ d.ties.map fun t => tieOf d.name t := by
  unfold elderT
  rw [List.flatMap_append]; simp
theorem elder_len {ds : List Deed} (h : Hist ds) (hl : ds.length ≤ 100) : ∀ i, (elderT (ds.take i)).length ≤ 100 * i
  | 0 => Nat.zero_le _
  | i + 1 => by
    have ih := elder_len h hl i
    cases e : ds[i]? with
    | none =>
      rw [List.take_of_length_le (Nat.le_succ_of_le (List.getElem?_eq_none_iff.mp e)), ← List.take_of_length_le (i := i) (List.getElem?_eq_none_iff.mp e)]
      omega
    | some d =>
      rw [take_snoc e, elder_snoc, List.length_append, List.length_map]
      have := (h.each d (List.mem_of_getElem? e)).2.1
      omega
theorem dead_len {ds : List Deed} : (deadD ds).length ≤ ds.length := by
  unfold deadD
  induction ds with
  | nil => exact Nat.le_refl _
  | cons d ds ih =>
    rw [List.flatMap_cons, List.length_append, List.length_cons]
    have : (if d.isCome = true then [] else [d.name]).length ≤ 1 := by split <;> simp
    omega
def spElder : Sp := fun vs H Q _ => ∃ (l : Addr) (ds : List Deed), vs = [.ref l] ∧ DeedsAt H l ds ∧ Hist ds ∧ ds.length ≤ 100 ∧ ∀ p H', Same H H' → H p = none → WebAt H' p (sortS (cameD ds)) (sortP (elderT ds)) → Q (.ref p) H'
section
variable {P : Program} {w : World} {K : PySem.W.Frag} {mg : Str → Option Value} {base : Heap}
theorem scCounts : FnScope ["deeds", "found", "deed", "other"] ["deeds"] (defScope sCounts) := ⟨rfl, rfl, rfl, by decide +kernel, rfl, by decide +kernel, by decide +kernel⟩
theorem ok_counts {f : Addr} {fd : FuncData} {k : Nat} (F : Fun K "_law_counts" "_law_counts" sCounts f fd) (B : Blt mg) : FnOk P w K mg base CX0 (k + 1) f fd ["deeds"] spCounts := by
  refine F.ok scCounts (fun vs H Q E h => ?_) (fun cdv A outer s H vs Q E hr h => ?_)
  · obtain ⟨l, ds, rfl, _⟩ := h
    rfl
  · obtain ⟨l, ds, rfl, ⟨qs, e1, e2⟩, hH, hl, q⟩ := h
    have hu := hu_of hr
    refine ⟨_, pss_cons (ps_set (i := 1) scCounts.nd rfl (.inl rfl) pe_dnewK)
      (pss_cons (ps_for PassesOwn.never rfl (pi_list (pv 0)) (pg_name (i := 2) scCounts.nd rfl (.inl rfl))
        (pss_one (ps_if (pt_cmpR op_eq (pe_ix ix_tup (pv 2) pe_int (fun _ _ => rfl)) pe_str (nomark _))
          (pss_cons (ps_dput hu (pv 1) (pe_ix ix_tup (pv 2) pe_int (fun _ _ => rfl)) (pe_callB call_len_seq (by rfl) B.len PySem.boot_len (pa_cons (pe_ix ix_tup (pv 2) pe_int (fun _ _ => rfl)) pa_nil)) rfl)
          (pss_one (ps_for PassesOwn.never rfl (pi_tup (pe_ix ix_tup (pv 2) pe_int (fun _ _ => rfl))) (pg_name (i := 3) scCounts.nd rfl (.inl rfl))
            (pss_one (ps_dput hu (pv 1) (pv 3) (pe_op op_add (pe_dget hu (pv 1) (pv 3) (fun _ _ => rfl)) pe_int) rfl))))) pss_nil)))
      (pss_one (ps_ret (pv 1)))), ?_⟩
    refine rs_set ?_
    intro fo nfo
    refine rs_list l (qs.map V.ref) (fun Q1 q1 => ⟨_, rfl, q1⟩) (fun i σ' H' => ∃ o2 o3, σ' = [some (.ref l), some (.ref fo), o2, o3] ∧ Same H H' ∧ H' fo = some (.dK (encF' (cameD (ds.take i)) (natV (cntD (ds.take i))))))
      ⟨_, _, rfl, same_upd nfo, upd_same⟩ (fun i σ' H' _ ⟨_, _, _, sx, _⟩ => sql_of (sx _ _ e1)) ?_ ?_
    · rintro i x σ' H' hx ⟨o2, o3, rfl, sx, eF⟩
      obtain ⟨qd, hq, rfl⟩ := map_get hx
      obtain ⟨d, hd, ed⟩ := paired_get e2 hq
      have hcl := hH.came_take i
      obtain ⟨more, em⟩ := (ed.keep sx).two (K := K)
      refine r_gname ?_
      refine ⟨.ref qd, rfl, qd, _, 0, .str d.word, rfl, rfl, sqt_of em, atI_nat (j := 0) rfl, rfl, _, congrArg V.bl (word_come d), ?_⟩
      have ec : cameD (ds.take (i + 1)) = cameD (ds.take i) ++ if d.isCome = true then [d.name] else [] := by rw [take_snoc hd, came_snoc]
      have eg : cntD (ds.take (i + 1)) = cntStep (cntD (ds.take i)) d := by rw [take_snoc hd, cnt_snoc]
      cases d with
      | come n ts =>
        obtain ⟨hn, hnew, hasc, hsub⟩ := hH.come_at hd
        obtain ⟨tq, g1, g2⟩ := ed
        have ec : cameD (ds.take (i + 1)) = cameD (ds.take i) ++ [n] := ec
        show if true = true then _ else _
        rw [if_pos rfl]
        refine ⟨.ref qd, rfl, qd, _, 2, .ref tq, rfl, rfl, sqt_of (sx _ _ g1), rfl, tq, _, rfl, .inr (sqt_of (sx _ _ g2)), .ref fo, rfl, .ref qd, rfl, qd, _, 1, .str n, rfl, rfl, sqt_of (sx _ _ g1), rfl, fo, _, rfl, DPut.k (k := Sum.inr n) eF (smallM (by rw [encF_len]; omega)), ?_⟩
        rw [encF_new hnew, ← ec, List.length_map]
        have sput : Same H (upd H' fo (.dK (encF' (cameD (ds.take (i + 1))) fun y => if y = n then V.int ↑ts.length else natV (cntD (ds.take i)) y))) := fun b u e => by
          rw [upd_ne (ne_of_none e nfo)]; exact sx _ _ e
        refine ⟨.ref qd, rfl, qd, _, 2, .ref tq, rfl, rfl, sqt_of (sput _ _ g1), rfl, tq, rfl, ⟨_, sqt_of (sput _ _ g2)⟩, for_tup (xs := ts.map V.str) (fun j σ' H' => ∃ o3, σ' = [some (.ref l), some (.ref fo), some (.ref qd), o3] ∧ Same H H' ∧ H' fo = some (.dK (encF' (cameD (ds.take (i + 1))) (natV fun z => (if z = n then ts.length else cntD (ds.take i) z) + if z ∈ ts.take j then 1 else 0))))
          ⟨_, rfl, sput, ?_⟩ (fun j σ' H' _ ⟨_, _, sx, _⟩ => sqt_of (sx _ _ g2)) ?_ ?_⟩
        · rw [upd_same]
          refine congrArg (fun z => some (HO.dK z)) (encF_congr fun y _ => ?_)
          by_cases hy : y = n
          · simp [hy]
          · simp [hy]
        · rintro j v σ2 H2 hv ⟨o3', rfl, sx2, eF2⟩
          obtain ⟨t, ht, rfl⟩ := map_get hv
          have htm := List.mem_of_getElem? ht
          have hmem : t ∈ cameD (ds.take (i + 1)) := by rw [ec]; exact List.mem_append_left _ ((hH.take i).liv_came t (hsub t htm))
          have hcl2 := hH.came_take (i + 1)
          refine r_gname ?_
          have hnd := hasc.nodup
          have g0 : DGet H2 fo (.str t) (some (natV (fun z => (if z = n then ts.length else cntD (ds.take i) z) + if z ∈ ts.take j then 1 else 0) t)) := by
            have := DGet.k (k := Sum.inr t) eF2
            rw [encF_val, if_pos hmem] at this
            exact this
          refine ⟨.ref fo, rfl, .str t, rfl, fo, _, rfl, g0, _, _, rfl, rfl, .ref fo, rfl, .str t, rfl, fo, _, rfl, DPut.k (k := Sum.inr t) eF2 (smallM (by rw [encF_len]; omega)), _, rfl, fun b u e => ?_, ?_⟩
          · rw [upd_ne (ne_of_none e nfo)]; exact sx2 _ _ e
          · rw [upd_same, encF_old hmem]
            refine congrArg (fun z => some (HO.dK z)) (encF_congr fun y _ => ?_)
            have htk : ts.take (j + 1) = ts.take j ++ [t] := take_snoc ht
            have hnt : t ∉ ts.take j := nodup_take hnd ht
            by_cases hy : y = t
            · subst hy
              simp [htk, hnt]
            · have : (y ∈ ts.take (j + 1)) ↔ (y ∈ ts.take j) := by rw [htk, List.mem_append, List.mem_singleton]; simp [hy]
              simp [hy, this]
        · rintro σ2 H2 ⟨o3', rfl, sx2, eF2⟩
          rw [List.length_map, List.take_length] at eF2
          refine ⟨_, _, rfl, sx2, ?_⟩
          rw [eF2, eg]; rfl
      | die n =>
        show if false = true then _ else _
        rw [if_neg Bool.false_ne_true]
        refine ⟨_, _, rfl, sx, ?_⟩
        rw [eF, ec, eg]
        show _ = some (HO.dK (encF' (_ ++ []) _))
        rw [List.append_nil]; rfl
    · rintro σ' H' ⟨o2, o3, rfl, sx, eF⟩
      rw [List.length_map, Paired.length e2, List.take_length] at eF
      exact ⟨.ref fo, rfl, q fo H' sx nfo eF⟩
end
end Hw

set_option Elab.async false
set_option linter.all false
set_option maxRecDepth 100000
set_option maxHeartbeats 4000000
namespace Hw
open PySem L2 PyProof.Rows
section
variable {P : Program} {w : World} {K : PySem.W.Frag} {mg : Str → Option Value} {base : Heap}
theorem word_die (d : Deed) : decide (V.str d.word = V.str (Str.ofString "die")) = !d.isCome := by
  cases d with
  | come n ts =>
    refine decide_eq_false fun e => ?_
    injection e with e
    exact absurd (show sCome = Str.ofString "die" from e) (by decide +kernel)
  | die n => exact decide_eq_true rfl
theorem scElder : FnScope ["deeds", "places", "ties", "deed", "other"] ["deeds"] (defScope sElder) := ⟨rfl, rfl, rfl, by decide +kernel, rfl, by decide +kernel, by decide +kernel⟩
theorem ok_elder {f fE : Addr} {fd fdE : FuncData} {k : Nat} (F : Fun K "_law_elder" "_law_elder" sElder f fd) (B : Blt mg) (bs : mg "sorted" = none)
    (GE : FnOk P w K mg base CX0 k fE fdE ["one", "other"] spTie) (gE : mg "_law_tie" = some (.ref fE)) (kE : PySem.W.keepIn K (.ref fE) = true) (bE : Binds K fdE ["one", "other"] []) : FnOk P w K mg base CX0 (k + 1) f fd ["deeds"] spElder := by
  refine F.ok scElder (fun vs H Q E h => ?_) (fun cdv A outer s H vs Q E hr h => ?_)
  · obtain ⟨l, ds, rfl, _⟩ := h
    rfl
  · obtain ⟨l, ds, rfl, ⟨qs, e1, e2⟩, hH, hl, q⟩ := h
    have hu := hu_of hr
    have hu64 := hr.units
    refine ⟨_, pss_cons (ps_par (i := 1) (j := 2) rfl scElder.nd rfl rfl (by decide) rfl rfl (pa_cons (pe_lst pa_nil) (pa_cons (pe_lst pa_nil) pa_nil)) rfl)
      (pss_cons (ps_for PassesOwn.never rfl (pi_list (pv 0)) (pg_name (i := 3) scElder.nd rfl (.inr rfl))
        (pss_one (ps_if (pt_cmpR op_eq (pe_ix ix_tup (pv 3) pe_int (fun _ _ => rfl)) pe_str (nomark _))
          (pss_cons (ps_expr (pe_bm PySem.F.plainAttrs_list PySem.F.slot_list_append PySem.F.type_list_append mt_append (pv 1) (pa_cons (pe_ix ix_tup (pv 3) pe_int (fun _ _ => rfl)) pa_nil)))
          (pss_one (ps_expr (pe_bm PySem.F.plainAttrs_list PySem.F.slot_list_extend PySem.F.type_list_extend mt_extend (pv 2) (pa_cons
            (pe_lc (own := [("other", 4)]) (g := gName 4) (tt := tYes) (te := tCall spTie [] E0 (tCons (tOp (rIxT K) (tVar 3) (tC (.int 1))) (tCons (tVar 4) tNil))) rfl scElder.nd (pi_tup (pe_ix ix_tup (pv 3) pe_int (fun _ _ => rfl)))
              (blkOk_by (N := ["deeds", "places", "ties", "deed", "other"]) (sc := defScope sElder) (by decide +kernel)) (fun _ _ _ _ _ => pg_name (i := 4) scElder.nd rfl (Or.inl rfl)) (fun _ _ _ _ _ => pts_nil)
              (fun _ _ _ _ _ => pe_call GE hr (by rfl) gE kE bE .nil pass0 (pa_cons (pe_ix ix_tup (pv 3) pe_int (fun _ _ => rfl)) (pa_cons (pv 4) pa_nil)))) pa_nil))))) pss_nil)))
      (pss_one (ps_ret (pe_tup (pa_cons (pe_callB (cr_sortT hu64) (by rfl) bs (by decide +kernel) (pa_cons (pv 1) pa_nil)) (pa_cons (pe_callB (cr_sortTP hu64) (by rfl) bs (by decide +kernel) (pa_cons (pv 2) pa_nil)) pa_nil)))))), ?_⟩
    refine rs_par ?_
    refine ⟨Nat.zero_le _, fun pl npl => ⟨Nat.zero_le _, fun tl ntl => ⟨_, _, rfl, ?_⟩⟩⟩
    have npt : pl ≠ tl := ne_of_none upd_same ntl
    have ntl0 : H tl = none := (same_upd npl).free ntl
    have s0 := (same_upd (o := .lst []) npl).trans (same_upd (o := .lst []) ntl)
    have e0p : (upd (upd H pl (.lst [])) tl (.lst [])) pl = some (.lst []) := (same_upd ntl) _ _ upd_same
    have e0t : (upd (upd H pl (.lst [])) tl (.lst [])) tl = some (.lst []) := upd_same
    generalize (upd (upd H pl (.lst [])) tl (.lst [])) = H0 at s0 e0p e0t ⊢
    refine rs_list l (qs.map V.ref) (fun Q1 q1 => ⟨_, rfl, q1⟩) (fun i σ' H' => ∃ o3 ts, σ' = [some (.ref l), some (.ref pl), some (.ref tl), o3, none] ∧ Same H H' ∧ H' pl = some (.lst ((cameD (ds.take i)).map V.str)) ∧ H' tl = some (.lst (ts.map V.ref)) ∧ Paired (TieL H') ts (elderT (ds.take i)))
      ⟨_, [], rfl, s0, e0p, e0t, .nil⟩ (fun i σ' H' _ ⟨_, _, _, sx, _⟩ => sql_of (sx _ _ e1)) ?_ ?_
    · rintro i x σ' H' hx ⟨o3, ts0, rfl, sx, ep, et, ht⟩
      obtain ⟨qd, hq, rfl⟩ := map_get hx
      obtain ⟨d, hd, ed⟩ := paired_get e2 hq
      have hi := (List.getElem?_eq_some_iff.mp hd).1
      have hcl := hH.came_take i
      have hel := elder_len hH hl i
      obtain ⟨more, em⟩ := (ed.keep sx).two (K := K)
      refine r_gname ?_
      refine ⟨.ref qd, rfl, qd, _, 0, .str d.word, rfl, rfl, sqt_of em, atI_nat (j := 0) rfl, rfl, _, congrArg V.bl (word_come d), ?_⟩
      have ec : cameD (ds.take (i + 1)) = cameD (ds.take i) ++ if d.isCome = true then [d.name] else [] := by rw [take_snoc hd, came_snoc]
      have ee : elderT (ds.take (i + 1)) = elderT (ds.take i) ++ d.ties.map fun t => tieOf d.name t := by rw [take_snoc hd, elder_snoc]
      have hev := hH.each d (List.mem_of_getElem? hd)
      cases d with
      | come n ts =>
        obtain ⟨tq, g1, g2⟩ := ed
        have ec : cameD (ds.take (i + 1)) = cameD (ds.take i) ++ [n] := ec
        have ee : elderT (ds.take (i + 1)) = elderT (ds.take i) ++ ts.map fun t => tieOf n t := ee
        have hts : ts.length ≤ ds.length := hev.2.1
        show if true = true then _ else _
        rw [if_pos rfl]
        refine rs_bm ?_
        refine ⟨.ref pl, rfl, .inl ⟨rfl, _, sql_of ep⟩, .ref qd, rfl, qd, _, 1, .str n, rfl, rfl, sqt_of (sx _ _ g1), rfl, pl, _, _, rfl, rfl, ep, smallM (by rw [List.length_map]; omega), ?_⟩
        have ep1 : (upd H' pl (.lst ((cameD (ds.take i)).map V.str ++ [.str n]))) pl = some (.lst ((cameD (ds.take (i + 1))).map V.str)) := by rw [upd_same, ec, List.map_append]; rfl
        have k1 : ∀ {b : Addr} {o : HO}, b ≠ pl → H' b = some o → (upd H' pl (.lst ((cameD (ds.take i)).map V.str ++ [.str n]))) b = some o := fun {b o} hb e => by rw [upd_ne hb]; exact e
        have sx1 : Same H (upd H' pl (.lst ((cameD (ds.take i)).map V.str ++ [.str n]))) := fun b o e => k1 (ne_of_none e npl) (sx _ _ e)
        have et1 := k1 (Ne.symm npt) et
        have ht1 : Paired (TieL (upd H' pl (.lst ((cameD (ds.take i)).map V.str ++ [.str n])))) ts0 (elderT (ds.take i)) := paired_mono (fun q t e => k1 (fun z => by
          have e : H' q = _ := e
          rw [z, ep] at e
          cases e) e) ht
        generalize (upd H' pl (.lst ((cameD (ds.take i)).map V.str ++ [.str n]))) = H1 at ep1 sx1 et1 ht1 ⊢
        clear em ep et ht k1
        refine ⟨.ref tl, rfl, .inl ⟨rfl, _, sql_of et1⟩, .ref qd, rfl, qd, _, 2, .ref tq, rfl, rfl, sqt_of (sx1 _ _ g1), rfl, tq, rfl, ⟨_, sqt_of (sx1 _ _ g2)⟩, fun D nD => lc_tup (xs := ts.map V.str) (fun j H' => ∃ us, Same H1 H' ∧ H' D = some (.lst (us.map V.ref)) ∧ Paired (TieL H') us ((ts.take j).map fun t => tieOf n t)) ⟨[], same_upd nD, upd_same, .nil⟩ (fun j H' _ ⟨_, s, _⟩ => sqt_of (s _ _ (sx1 _ _ g2))) ?_ ?_⟩
        · rintro j v H2 hv ⟨us, s2, eD, hu2⟩
          obtain ⟨t, htj, rfl⟩ := map_get hv
          have hul : us.length ≤ 100 := by
            rw [Paired.length hu2, List.length_map, List.length_take]
            omega
          refine ⟨rfl, r_yes ?_⟩
          refine ⟨.ref qd, rfl, qd, _, 1, .str n, rfl, rfl, sqt_of (s2 _ _ (sx1 _ _ g1)), rfl, .str t, rfl, n, t, rfl, fun p np => ?_⟩
          have s3 := same_upd (o := .tup [.str (tieOf n t).1, .str (tieOf n t).2]) np
          have npD : p ≠ D := fun z => by rw [z, eD] at np; cases np
          refine ⟨_, s3 _ _ eD, smallM (by rw [List.length_map]; omega), us ++ [p], fun b o e => ?_, by rw [upd_same, List.map_append]; rfl, ?_⟩
          · rw [upd_ne (ne_of_none e nD)]; exact s3 _ _ (s2 _ _ e)
          · rw [take_snoc htj, List.map_append]
            refine paired_snoc ?_ (paired_mono (fun q t e => ?_) hu2)
            · show (upd _ D _) p = _
              rw [upd_ne npD, upd_same]
            · have e : H2 q = _ := e
              show (upd _ D _) q = _
              rw [upd_ne (fun z => by rw [z, eD] at e; cases e)]
              exact s3 _ _ e
        · rintro H2 ⟨us, s2, eD, hu2⟩
          rw [List.length_map, List.take_length] at hu2
          have hul : us.length ≤ 100 := by
            rw [Paired.length hu2, List.length_map]
            omega
          have htl : ts0.length = (elderT (ds.take i)).length := Paired.length ht1
          have et2 := s2 _ _ et1
          refine ⟨tl, D, _, _, rfl, rfl, et2, eD, Nat.le_of_lt (smallM (by rw [List.length_map, List.length_map]; omega)), _, ts0 ++ us, rfl, fun b o e => ?_, ?_, by rw [upd_same, List.map_append], ?_⟩
          · rw [upd_ne (ne_of_none e ntl0)]; exact s2 _ _ (sx1 _ _ e)
          · rw [upd_ne npt]; exact s2 _ _ ep1
          · have kt : ∀ (q : Addr) (t : Tie), TieL H2 q t → TieL (upd H2 tl (.lst (ts0.map V.ref ++ us.map V.ref))) q t := fun q t e => by
              have e : H2 q = _ := e
              show (upd _ tl _) q = _
              rw [upd_ne (fun z => by rw [z, et2] at e; cases e)]
              exact e
            rw [ee]
            exact paired_app (paired_mono (fun q t e => kt q t (s2 _ _ e)) ht1) (paired_mono kt hu2)
      | die n =>
        show if false = true then _ else _
        rw [if_neg Bool.false_ne_true]
        refine ⟨_, ts0, rfl, sx, ?_, et, ?_⟩
        · rw [ep, ec]
          show _ = some (HO.lst ((_ ++ []).map V.str))
          rw [List.append_nil]
        · rw [ee]
          show Paired _ _ (_ ++ [])
          rw [List.append_nil]
          exact ht
    · rintro σ' H' ⟨o3, ts0, rfl, sx, ep, et, ht⟩
      have el : (qs.map V.ref).length = ds.length := by rw [List.length_map]; exact Paired.length e2
      have hel := elder_len hH hl ds.length
      have hcl := came_len ds
      rw [el] at ep ht
      rw [List.take_length] at ep ht hel
      refine ⟨.ref pl, rfl, pl, cameD ds, rfl, sql_of ep, Nat.le_of_lt (smallM (by omega)), fun p1 n1 => ?_⟩
      have s1 := same_upd (o := .lst ((sortS (cameD ds)).map V.str)) n1
      refine ⟨.ref tl, rfl, tl, ts0, elderT ds, rfl, sql_of (s1 _ _ et), paired_mono (fun q t e => sqt_of (s1 _ _ e)) ht, Nat.le_of_lt (smallM (by omega)), fun p2 qs' n2 hq => ⟨by show 2 ≤ sizeLine; decide, fun p3 n3 => ?_⟩⟩
      have s2 := same_upd (o := .lst (qs'.map V.ref)) n2
      have s3 := same_upd (o := .tup [.ref p1, .ref p2]) n3
      refine q p3 _ (((sx.trans s1).trans s2).trans s3) (((sx.trans s1).trans s2).free n3) ⟨p1, p2, qs', upd_same, s3 _ _ (s2 _ _ upd_same), s3 _ _ upd_same, hq _ (paired_mono (fun q t e => s3 _ _ (s2 _ _ (s1 _ _ e))) ht)⟩
end
end Hw

set_option Elab.async false
set_option linter.all false
set_option maxRecDepth 100000
set_option maxHeartbeats 4000000
namespace Hw
open PySem L2 PyProof.Rows
abbrev sSome : Stmt := topS 35
theorem erase_map {α β : Type} (g : α → β) : ∀ (l : List α) (i : Nat), (l.map g).eraseIdx i = (l.eraseIdx i).map g
  | [], _ => rfl
  | _ :: _, 0 => rfl
  | x :: l, i + 1 => congrArg (g x :: ·) (erase_map g l i)
theorem erase_perm {α : Type} : ∀ (l : List α) (i : Nat) (h : i < l.length), (l[i] :: l.eraseIdx i).Perm l
  | x :: l, 0, _ => .refl _
  | x :: l, i + 1, h => by
    have h' : i < l.length := by rw [List.length_cons] at h; omega
    have e1 : (x :: l)[i + 1] = l[i] := rfl
    have e2 : (x :: l).eraseIdx (i + 1) = x :: l.eraseIdx i := rfl
    rw [e1, e2]
    exact (List.Perm.swap _ _ _).trans ((erase_perm l i h').cons x)
def spSome : Sp := fun vs H Q _ => ∃ (a b : Addr) (ns : List Str) (m N : Nat), vs = [.ref a, .ref b, .int m] ∧ Pot H a N ∧ H b = some (.lst (ns.map V.str)) ∧ N < 900000000 ∧ m ≤ ns.length ∧ ns.length ≤ 1000 ∧
  ∀ p (zs : List Str) H', (∀ z ∈ zs, z ∈ ns) → zs.length = m → (ns.Nodup → zs.Nodup) → H p = none → H' p = some (.lst (zs.map V.str)) → SameX a H H' → Pot H' a (N + m) → Q (.ref p) H'
section
variable {P : Program} {w : World} {K : PySem.W.Frag} {mg : Str → Option Value} {base : Heap}
theorem scSome : FnScope ["pot", "pool", "many", "left", "found", "lap"] ["pot", "pool", "many"] (defScope sSome) := ⟨rfl, rfl, rfl, by decide +kernel, rfl, by decide +kernel, by decide +kernel⟩
theorem ok_some {f fT : Addr} {fd fdT : FuncData} {k : Nat} (F : Fun K "_law_some" "_law_some" sSome f fd) (B : Blt mg) (GT : FnOk P w K mg base CX0 k fT fdT ["pot", "upto"] spTake) (gT : mg "_law_take" = some (.ref fT)) (kT : PySem.W.keepIn K (.ref fT) = true) (bT : Binds K fdT ["pot", "upto"] []) :
    FnOk P w K mg base CX0 (k + 1) f fd ["pot", "pool", "many"] spSome := by
  refine F.ok scSome (fun vs H Q E h => ?_) (fun cdv A outer s H vs Q E hr h => ?_)
  · obtain ⟨a, b, ns, m, N, rfl, _⟩ := h
    rfl
  · obtain ⟨a, b, ns, m, N, rfl, hP, hb, hN, hm, hl, q⟩ := h
    refine ⟨_, pss_cons (ps_par (i := 3) (j := 4) rfl scSome.nd rfl rfl (by decide) rfl rfl (pa_cons (pe_callTy call_list_of (by rfl) B.list PyProof.Rows.boot_list (pa_cons (pv 1) pa_nil)) (pa_cons (pe_lst pa_nil) pa_nil)) rfl)
      (pss_cons (ps_for PassesOwn.never rfl (pi_range1 (by rfl) B.range (pa_cons (pv 2) pa_nil)) (pg_name (i := 5) scSome.nd rfl (.inl rfl))
        (pss_one (ps_expr (pe_bm PySem.F.plainAttrs_list PySem.F.slot_list_append PySem.F.type_list_append mt_append (pv 4)
          (pa_cons (pe_bm PySem.F.plainAttrs_list PySem.F.slot_list_pop PySem.F.type_list_pop mt_popAt (pv 3) (pa_cons (pe_call GT hr (by rfl) gT kT bT .nil pass0 (pa_cons (pv 0) (pa_cons (pe_callB call_len_seq (by rfl) B.len PySem.boot_len (pa_cons (pv 3) pa_nil)) pa_nil))) pa_nil)) pa_nil)))))
      (pss_one (ps_ret (pv 4)))), ?_⟩
    refine rs_par ?_
    refine ⟨.ref b, rfl, b, ns.map V.str, rfl, .inl (sql_of hb), fun l nl => ⟨Nat.zero_le _, fun fo nfo => ⟨_, _, rfl, ?_⟩⟩⟩
    have s1 : Same H (upd (upd H l (.lst (ns.map V.str))) fo (.lst [])) := (same_upd nl).trans (same_upd nfo)
    have el : (upd (upd H l (.lst (ns.map V.str))) fo (.lst [])) l = some (.lst (ns.map V.str)) := (same_upd nfo) _ _ upd_same
    have efo : (upd (upd H l (.lst (ns.map V.str))) fo (.lst [])) fo = some (.lst []) := upd_same
    have nfl : fo ≠ l := fun e => by rw [e, upd_same] at nfo; cases nfo
    have hfo0 : H fo = none := (same_upd nl).free nfo
    have hla : l ≠ a := fun e => hP.some (e ▸ nl)
    have hfa : fo ≠ a := fun e => hP.some (e ▸ hfo0)
    generalize (upd (upd H l (.lst (ns.map V.str))) fo (.lst [])) = H1 at s1 el efo ⊢
    refine rs_rng 0 (m : Int).toNat (fun H2 => H2 = H1) (fun i σ' H' => ∃ (o5 : Option V) (ls zs : List Str), σ' = [some (.ref a), some (.ref b), some (.int m), some (.ref l), some (.ref fo), o5] ∧ SameX a H H' ∧ Pot H' a (N + i) ∧ H' l = some (.lst (ls.map V.str)) ∧ ls.length + i = ns.length ∧ (∀ z ∈ ls, z ∈ ns) ∧ H' fo = some (.lst (zs.map V.str)) ∧ zs.length = i ∧ (∀ z ∈ zs, z ∈ ns) ∧ (ls ++ zs).Perm ns)
      (fun R hR => ⟨.int m, rfl, m, rfl, by omega, by omega, hR H1 rfl⟩) (fun H2 e => by subst e; exact ⟨_, ns, [], rfl, .of s1, hP.same s1, el, rfl, (fun z h => h), efo, rfl, (fun _ h => nomatch h), by rw [List.append_nil]⟩) ?_ ?_
    · rintro i σ' H' hi ⟨o5, ls, zs, rfl, sx, hp, el', hll, hls, ef', hzl, hzs, hpm⟩
      refine r_gname ?_
      refine ⟨.ref fo, rfl, .inl ⟨rfl, _, sql_of ef'⟩, .ref l, rfl, .inl ⟨rfl, _, sql_of el'⟩, .ref a, rfl, .ref l, rfl, l, ls.map V.str, rfl, .inl (sql_of el'), a, ((ls.map V.str).length : Int), N + i, rfl, hp, by omega, by rw [List.length_map]; omega, by rw [List.length_map]; omega, fun r H2 r0 r1 s2 hp2 => ?_⟩
      rw [List.length_map] at r1
      have hj : r.toNat < ls.length := by omega
      have el2 := s2 _ _ hla el'
      have ef2 := s2 _ _ hfa ef'
      refine ⟨l, ls.map V.str, r, r.toNat, .str ls[r.toNat], rfl, rfl, el2, by omega, by omega, ?_, by rw [List.getElem?_map, List.getElem?_eq_getElem hj]; rfl, ?_⟩
      · rw [List.length_map]; exact PySem.StrLaws.seqIndex_nonneg r0 (by omega)
      have hez : (ls.map V.str).eraseIdx r.toNat = (ls.eraseIdx r.toNat).map V.str := erase_map V.str ls r.toNat
      rw [hez]
      refine ⟨fo, _, _, rfl, rfl, by rw [upd_ne nfl]; exact ef2, small1000 (by rw [List.length_map]; omega), ?_⟩
      refine ⟨_, ls.eraseIdx r.toNat, zs ++ [ls[r.toNat]], rfl, fun c o hc e => ?_, ?_, ?_, ?_, fun z hz => hls z (List.mem_of_mem_eraseIdx hz), ?_, ?_, ?_, ?_⟩
      · have n1 : c ≠ fo := ne_of_none e hfo0
        have n2 : c ≠ l := ne_of_none e nl
        rw [upd_ne n1, upd_ne n2]
        exact s2 _ _ hc (sx _ _ hc e)
      · obtain ⟨xx, yy, zz, e, hh⟩ := hp2.ex
        exact ⟨⟨xx, yy, zz, by rw [upd_ne (Ne.symm hfa), upd_ne (Ne.symm hla)]; exact e, hh⟩⟩
      · rw [upd_ne (Ne.symm nfl), upd_same]
      · rw [List.length_eraseIdx_of_lt hj]; omega
      · rw [upd_same, List.map_append]; rfl
      · rw [List.length_append, hzl]; rfl
      · intro z hz
        rcases List.mem_append.mp hz with hz | hz
        · exact hzs z hz
        · rw [List.mem_singleton.mp hz]; exact hls _ (List.getElem_mem _)
      · refine .trans ?_ hpm
        have e1 : (ls[r.toNat] :: ls.eraseIdx r.toNat).Perm ls := erase_perm ls _ hj
        have e2 : (ls.eraseIdx r.toNat ++ (zs ++ [ls[r.toNat]])).Perm ((ls[r.toNat] :: ls.eraseIdx r.toNat) ++ zs) := by
          rw [← List.append_assoc]
          exact List.perm_append_comm.trans (by simp)
        exact e2.trans (e1.append_right zs)
    · rintro σ' H' ⟨o5, ls, zs, rfl, sx, hp, el', hll, hls, ef', hzl, hzs, hpm⟩
      have em : (m : Int).toNat = m := Int.toNat_natCast m
      rw [em] at hp hzl
      exact ⟨.ref fo, rfl, q fo zs H' hzs hzl (fun hn => ((hpm.nodup_iff.mpr hn) |> fun h => (List.nodup_append.mp h).2.1)) hfo0 ef' sx hp⟩
end
end Hw

set_option Elab.async false
set_option linter.all false
set_option maxRecDepth 100000
set_option maxHeartbeats 4000000
namespace Hw
open PySem L2 PyProof.Rows
abbrev sComeT : Stmt := topS 43
def spComeT : Sp := fun vs H Q _ => ∃ (a l : Addr) (ns : List Str) (wd : Bool) (N : Nat), vs = [.ref a, .ref l, .bl wd] ∧ Pot H a N ∧ N < 400000000 ∧ H l = some (.lst (ns.map V.str)) ∧ ns.Nodup ∧ (∀ z ∈ ns, Nm z) ∧ ns.length ≤ 100 ∧
  ∀ tq ts H', (∀ t ∈ ts, t ∈ ns) → Asc ts → (wd = true → ts.length ≤ 1) → H' tq = some (.tup (ts.map V.str)) → SameX a H H' → Pot H' a (N + 10) → Q (.ref tq) H'
theorem eqv_strs_nil (ns : List Str) : PyData.eqv (.list (ns.map PyData.str)) (.list []) = decide (ns = []) := by
  rw [PyData.eqv]
  cases ns with
  | nil => rfl
  | cons x xs => rfl
section
variable {P : Program} {w : World} {K : PySem.W.Frag} {mg : Str → Option Value} {base : Heap}
theorem scComeT : FnScope ["pot", "living", "wood"] ["pot", "living", "wood"] (defScope sComeT) := ⟨rfl, rfl, rfl, by decide +kernel, rfl, by decide +kernel, by decide +kernel⟩
theorem ok_comeT {f fT fO fS : Addr} {fd fdT fdO fdS : FuncData} {k : Nat} (F : Fun K "_law_come_ties" "_law_come_ties" sComeT f fd) (B : Blt mg) (bs : mg "sorted" = none) (bt : mg "tuple" = none)
    (GT : FnOk P w K mg base CX0 k fT fdT ["pot", "upto"] spTake) (gT : mg "_law_take" = some (.ref fT)) (kT : PySem.W.keepIn K (.ref fT) = true) (bT : Binds K fdT ["pot", "upto"] [])
    (GO : FnOk P w K mg base CX0 k fO fdO ["pot", "some"] (spOf2 K)) (gO : mg "_law_of" = some (.ref fO)) (kO : PySem.W.keepIn K (.ref fO) = true) (bO : Binds K fdO ["pot", "some"] [])
    (GS : FnOk P w K mg base CX0 k fS fdS ["pot", "pool", "many"] spSome) (gS : mg "_law_some" = some (.ref fS)) (kS : PySem.W.keepIn K (.ref fS) = true) (bS : Binds K fdS ["pot", "pool", "many"] []) :
    FnOk P w K mg base CX0 (k + 1) f fd ["pot", "living", "wood"] spComeT := by
  refine F.ok scComeT (fun vs H Q E h => ?_) (fun cdv A outer s H vs Q E hr h => ?_)
  · obtain ⟨a, l, ns, wd, N, rfl, _⟩ := h
    rfl
  · obtain ⟨a, l, ns, wd, N, rfl, hP, hN, el, hnd, hnm, hlen, q⟩ := h
    have hu := hu_of hr
    have hu64 := hr.units
    refine ⟨_, pss_cons (ps_if (PW.pt (pw_or (pt_cmpR (op_eqD hu64) (pv 1) (pe_lst pa_nil) (nomark _)) (pw_or1 (pt_cmpR op_eq (pe_call GT hr (by rfl) gT kT bT .nil pass0 (pa_cons (pv 0) (pa_cons pe_int pa_nil))) pe_int (nomark _))))) (pss_one (ps_ret (pe_tup pa_nil))) pss_nil)
      (pss_cons (ps_if (PW.pt (pw_or (pt_val (pv 2)) (pw_or1 (pt_cmpR op_gt (pe_call GT hr (by rfl) gT kT bT .nil pass0 (pa_cons (pv 0) (pa_cons pe_int pa_nil))) pe_int (nomark _))))) (pss_one (ps_ret (pe_tup (pa_cons (pe_call GO hr (by rfl) gO kO bO .nil pass0 (pa_cons (pv 0) (pa_cons (pv 1) pa_nil))) pa_nil)))) pss_nil)
      (pss_one (ps_ret (pe_callTy call_tuple_of (by rfl) bt PyProof.Rows.boot_tuple (pa_cons (pe_callB (cr_sortT hu64) (by rfl) bs (by decide +kernel) (pa_cons (pe_call GS hr (by rfl) gS kS bS .nil pass0 (pa_cons (pv 0) (pa_cons (pv 1) (pa_cons
        (pe_callB (call_min2 rfl) (by rfl) B.min PyProof.Rows.boot_min (pa_cons (pe_callB call_len_seq (by rfl) B.len PySem.boot_len (pa_cons (pv 1) pa_nil)) (pa_cons (pe_op op_add pe_int (pe_call GT hr (by rfl) gT kT bT .nil pass0 (pa_cons (pv 0) (pa_cons pe_int pa_nil)))) pa_nil))) pa_nil)))) pa_nil)) pa_nil))))), ?_⟩
    have nla := pot_ne_strs hP el
    have ret0 : ∀ H', SameX a H H' → Pot H' a (N + 1) → ∀ p, H' p = none → Q (.ref p) (upd H' p (.tup [])) := fun H' sx hp p np =>
      q p [] _ (fun _ z => nomatch z) .nil (fun _ => Nat.zero_le _) upd_same (sx.trans (.of (same_upd np))) ((hp.same (same_upd np)).mono (by omega))
    have l2 : ∀ {b : Addr} {H' : Hp}, SameX a H H' → H' l = some (.lst (ns.map V.str)) := fun {b H'} sx => sx _ _ (Ne.symm nla) el
    refine rs_no2 (fun H' => SameX a H H' ∧ Pot H' a (N + 1)) (fun H' => SameX a H H' ∧ Pot H' a (N + 1) ∧ 0 < ns.length) (fun Q1 qt qf => ?_) (fun H1 ⟨sx, hp⟩ => ?_) (fun H1 ⟨sx, hp, hne⟩ => ?_)
    · refine ⟨.ref l, rfl, Nat.zero_le _, fun l0 n0 => ⟨.list (ns.map PyData.str), .list [], .lst (sql_of ((same_upd n0) _ _ el)) (strs_dp _), .lst (sql_of upd_same) .nil, strs_lay hnm (fun x hx => hx), by decide +kernel, _, rfl, ?_⟩⟩
      rw [eqv_strs_nil]
      have s0 := same_upd (o := .lst []) n0
      have hp0 := hP.same s0
      refine ite2 (fun c0 => qt _ ⟨.of s0, hp0.mono (by omega)⟩) (fun c0 => ?_)
      refine ⟨.ref a, rfl, a, 12, N, rfl, hp0, by omega, by decide, by decide, fun r H2 r0 r1 s2 hp2 => ⟨rfl, _, rfl, ?_⟩⟩
      cases hb : decide (V.int r = V.int 0) with
      | true => exact qt _ ⟨(SameX.of s0).trans s2, hp2⟩
      | false => exact qf _ ⟨(SameX.of s0).trans s2, hp2, List.length_pos_iff.mpr (fun e => c0 (decide_eq_true e))⟩
    · exact ⟨Nat.zero_le _, ret0 H1 sx hp⟩
    have el1 := l2 (b := l) sx
    refine rs_no2 (fun H' => SameX a H H' ∧ Pot H' a (N + 2)) (fun H' => SameX a H H' ∧ Pot H' a (N + 2) ∧ wd = false) (fun Q1 qt qf => ?_) (fun H2 ⟨sx2, hp2⟩ => ?_) (fun H2 ⟨sx2, hp2, hw⟩ => ?_)
    · refine ⟨.bl wd, rfl, wd, rfl, ?_⟩
      cases wd with
      | true => exact qt _ ⟨sx, hp.mono (by omega)⟩
      | false =>
        refine ⟨.ref a, rfl, a, 3, N + 1, rfl, hp, by omega, by decide, by decide, fun r H3 r0 r1 s3 hp3 => ⟨_, _, rfl, rfl, _, rfl, ?_⟩⟩
        cases hb : decide ((0 : Int) < r) with
        | true => exact qt _ ⟨sx.trans s3, hp3⟩
        | false => exact qf _ ⟨sx.trans s3, hp3, rfl⟩
    · have el2 := l2 (b := l) sx2
      refine ⟨.ref a, rfl, .ref l, rfl, .inl ⟨a, l, ns.map V.str, N + 2, rfl, hp2, by omega, sql_of el2, nla, by rw [List.length_map]; exact hne, by rw [List.length_map]; omega, fun ix v H3 hv s3 hp3 => ⟨by show 1 ≤ sizeLine; decide, fun p np => ?_⟩⟩⟩
      obtain ⟨z, hz, rfl⟩ := map_get hv
      have s4 := same_upd (o := .tup [.str z]) np
      exact q p [z] _ (fun t ht => by rw [List.mem_singleton.mp ht]; exact List.mem_of_getElem? hz) (List.pairwise_singleton _ _) (fun _ => Nat.le_refl _) upd_same ((sx2.trans s3).trans (.of s4)) ((hp3.same s4).mono (by omega))
    · have el2 := l2 (b := l) sx2
      refine r_ret ?_
      refine ⟨.ref a, rfl, .ref l, rfl, .ref l, rfl, l, ns.map V.str, rfl, .inl (sql_of el2), .ref a, rfl, a, 3, N + 2, rfl, hp2, by omega, by decide, by decide, fun r H3 r0 r1 s3 hp3 => ?_⟩
      refine ⟨_, _, rfl, rfl, _, _, rfl, ?_⟩
      have el3 := l2 (b := l) (sx2.trans s3)
      rw [List.length_map]
      obtain ⟨m, hm, hml, hm2⟩ : ∃ m : Nat, (if (2 : Int) + r < (ns.length : Nat) then 2 + r else ((ns.length : Nat) : Int)) = (m : Int) ∧ m ≤ ns.length ∧ m ≤ 4 := by
        by_cases h : (2 : Int) + r < (ns.length : Nat)
        · rw [if_pos h]; exact ⟨(2 + r).toNat, by omega, by omega, by omega⟩
        · rw [if_neg h]; exact ⟨ns.length, rfl, Nat.le_refl _, by omega⟩
      rw [hm]
      refine ⟨a, l, ns, m, N + 3, rfl, hp3, el3, by omega, hml, by omega, fun p zs H4 hz hzl hzn np ep s4 hp4 => ?_⟩
      refine ⟨p, zs, rfl, sql_of ep, Nat.le_of_lt (smallM (by omega)), fun p2 n2 => ?_⟩
      have s5 := same_upd (o := .lst ((sortS zs).map V.str)) n2
      refine ⟨p2, (sortS zs).map V.str, rfl, .inl ⟨sql_of upd_same, fun p3 n3 => ?_⟩⟩
      have s6 := same_upd (o := .tup ((sortS zs).map V.str)) n3
      exact q p3 (sortS zs) _ (fun t ht => hz t ((sortS_perm zs).mem_iff.mp ht)) (sortS_asc (hzn hnd)) (fun e => by rw [hw] at e; cases e) upd_same (((sx2.trans s3).trans s4).trans (.of (s5.trans s6))) ((hp4.same (s5.trans s6)).mono (by omega))
end
end Hw

set_option Elab.async false
set_option linter.all false
set_option maxRecDepth 100000
set_option maxHeartbeats 4000000
namespace Hw
open PySem L2 PyProof.Rows
abbrev sShape : Stmt := topS 44
def spShape : Sp := fun vs H Q _ => ∃ (a l : Addr) (ns : List Str) (sh wi : Nat) (wd : Bool) (N : Nat), vs = [.ref a, .ref l, .int sh, .int wi, .bl wd] ∧ Pot H a N ∧ N < 400000000 ∧ H l = some (.lst (ns.map V.str)) ∧ ns.Nodup ∧ (∀ z ∈ ns, Nm z) ∧ ns.length ≤ 100 ∧ 2 ≤ wi ∧ wi ≤ 100 ∧
  ∀ tq ts H', (∀ t ∈ ts, t ∈ ns) → Asc ts → (wd = true → ts.length ≤ 1) → H' tq = some (.tup (ts.map V.str)) → SameX a H H' → Pot H' a (N + 10) → Q (.ref tq) H'
section
variable {P : Program} {w : World} {K : PySem.W.Frag} {mg : Str → Option Value} {base : Heap}
theorem scShape : FnScope ["pot", "here", "shape", "wide", "wood", "at"] ["pot", "here", "shape", "wide", "wood"] (defScope sShape) := ⟨rfl, rfl, rfl, by decide +kernel, rfl, by decide +kernel, by decide +kernel⟩
theorem ok_shape {f fC : Addr} {fd fdC : FuncData} {k : Nat} (F : Fun K "_law_shape_ties" "_law_shape_ties" sShape f fd) (B : Blt mg) (bs : mg "sorted" = none) (bt : mg "tuple" = none)
    (GC : FnOk P w K mg base CX0 k fC fdC ["pot", "living", "wood"] spComeT) (gC : mg "_law_come_ties" = some (.ref fC)) (kC : PySem.W.keepIn K (.ref fC) = true) (bC : Binds K fdC ["pot", "living", "wood"] []) :
    FnOk P w K mg base CX0 (k + 1) f fd ["pot", "here", "shape", "wide", "wood"] spShape := by
  refine F.ok scShape (fun vs H Q E h => ?_) (fun cdv A outer s H vs Q E hr h => ?_)
  · obtain ⟨a, l, ns, sh, wi, wd, N, rfl, _⟩ := h
    rfl
  · obtain ⟨a, l, ns, sh, wi, wd, N, rfl, hP, hN, el, hnd, hnm, hlen, hw1, hw2, q⟩ := h
    have hu := hu_of hr
    have hu64 := hr.units
    refine ⟨_, pss_cons (ps_set (i := 5) scShape.nd rfl (.inl rfl) (pe_callB call_len_seq (by rfl) B.len PySem.boot_len (pa_cons (pv 1) pa_nil)))
      (pss_cons (ps_if (PW.pt (pw_or (pt_cmpR op_eq (pv 5) pe_int (nomark _)) (pw_or1 (pt_cmpR op_eq (pv 2) pe_int (nomark _))))) (pss_one (ps_ret (pe_call GC hr (by rfl) gC kC bC .nil pass0 (pa_cons (pv 0) (pa_cons (pv 1) (pa_cons (pv 4) pa_nil)))))) pss_nil)
      (pss_cons (ps_if (pt_cmpR op_eq (pv 2) pe_int (nomark _)) (pss_one (ps_ret (pe_tup (pa_cons (pe_ix ix_list (pv 1) pe_int (fun _ _ => rfl)) pa_nil)))) pss_nil)
      (pss_cons (ps_if (pt_cmpR op_eq (pv 2) pe_int (nomark _)) (pss_one (ps_ret (pe_tup (pa_cons (pe_ifExp (PW.pt (pw_or (pt_cmpR op_eq (pe_op op_mod (pv 5) (pv 3)) pe_int (nomark _)) (pw_or1 (pt_cmpR op_lt (pv 5) (pv 3) (nomark _)))))
          (pe_ix ix_list (pv 1) pe_int (fun _ _ => rfl)) (pe_ix ix_list (pv 1) (pe_op op_add (pe_op op_sub (pe_op op_mul (pe_op op_fdiv (pv 5) (pv 3)) (pv 3)) (pv 3)) pe_int) (fun _ _ => rfl))) pa_nil)))) pss_nil)
      (pss_cons (ps_if (pt_cmpR op_eq (pv 2) pe_int (nomark _)) (pss_one (ps_ret (pe_tup (pa_cons (pe_ifExp (pt_cmpR op_eq (pe_op op_mod (pv 5) pe_int) pe_int (nomark _))
          (pe_ix ix_list (pv 1) (pe_op op_sub (pv 5) pe_int) (fun _ _ => rfl)) (pe_ix ix_list (pv 1) (pe_op op_sub (pv 5) pe_int) (fun _ _ => rfl))) pa_nil)))) pss_nil)
      (pss_cons (ps_if (PW.pt (pw_and (pt_cmpR op_eq (pv 2) pe_int (nomark _)) (pw_and (pt_not (pt_val (pv 4))) (pw_and (pt_cmpR op_eq (pe_op op_mod (pv 5) (pv 3)) (pe_op op_sub (pv 3) pe_int) (nomark _)) (pw_and1 (pt_cmpR op_gt (pv 3) pe_int (nomark _)))))))
          (pss_one (ps_ret (pe_callTy call_tuple_of (by rfl) bt PyProof.Rows.boot_tuple (pa_cons (pe_callB (cr_sortT hu64) (by rfl) bs (by decide +kernel) (pa_cons (pe_lst (pa_cons (pe_ix ix_list (pv 1) (pe_op op_sub (pv 5) pe_int) (fun _ _ => rfl)) (pa_cons (pe_ix ix_list (pv 1) (pe_op op_sub (pe_op op_add (pv 5) pe_int) (pv 3)) (fun _ _ => rfl)) pa_nil))) pa_nil)) pa_nil)))) pss_nil)
      (pss_cons (ps_if (PW.pt (pw_and (pt_cmpR op_eq (pv 2) pe_int (nomark _)) (pw_and (pt_not (pt_val (pv 4))) (pw_and1 (pt_cmpR op_ge (pv 5) (pv 3) (nomark _))))))
          (pss_one (ps_ret (pe_callTy call_tuple_of (by rfl) bt PyProof.Rows.boot_tuple (pa_cons (pe_callB (cr_sortT hu64) (by rfl) bs (by decide +kernel) (pa_cons (pe_op op_cat (pe_lst (pa_cons (pe_ix ix_list (pv 1) (pe_op op_sub (pv 5) (pv 3)) (fun _ _ => rfl)) pa_nil))
            (pe_ifExp (pt_cmpR op_gt (pe_op op_mod (pv 5) (pv 3)) pe_int (nomark _)) (pe_lst (pa_cons (pe_ix ix_list (pv 1) (pe_op op_sub (pv 5) pe_int) (fun _ _ => rfl)) pa_nil)) (pe_lst pa_nil))) pa_nil)) pa_nil)))) pss_nil)
      (pss_one (ps_ret (pe_tup (pa_cons (pe_ix ix_list (pv 1) (pe_op op_sub (pv 5) pe_int) (fun _ _ => rfl)) pa_nil)))))))))), ?_⟩
    have ret1 : ∀ (j : Nat) (hj : j < ns.length) (H' : Hp), Same H H' → ∀ p, H' p = none → Q (.ref p) (upd H' p (.tup [.str ns[j]])) := fun j hj H' s p np =>
      q p [ns[j]] _ (fun t ht => by rw [List.mem_singleton.mp ht]; exact List.getElem_mem hj) (List.pairwise_singleton _ _) (fun _ => Nat.le_refl _) upd_same ((SameX.of s).trans (.of (same_upd np))) (((hP.same s).same (same_upd np)).mono (by omega))
    have retS : ∀ (zs : List Str), wd = false → (∀ z ∈ zs, z ∈ ns) → zs.Nodup → ∀ (H' : Hp), Same H H' → ∀ p, H' p = none → Q (.ref p) (upd H' p (.tup ((sortS zs).map V.str))) := fun zs hwd hz hn H' s p np =>
      q p (sortS zs) _ (fun t ht => hz t ((sortS_perm zs).mem_iff.mp ht)) (sortS_asc hn) (fun e => by rw [hwd] at e; cases e) upd_same ((SameX.of s).trans (.of (same_upd np))) (((hP.same s).same (same_upd np)).mono (by omega))
    have nodup2 : ∀ {i j : Nat} (hi : i < ns.length) (hj : j < ns.length), i < j → ([ns[j], ns[i]] : List Str).Nodup := fun hi hj hij => by
      have := nodup_ne hnd hi hj hij
      simp [Ne.symm this]
    have nodup2' : ∀ {i j : Nat} (hi : i < ns.length) (hj : j < ns.length), i < j → ([ns[i], ns[j]] : List Str).Nodup := fun hi hj hij => by
      have := nodup_ne hnd hi hj hij
      simp [this]
    have sql := sql_of (K := K) el
    refine rs_set ?_
    refine ⟨.ref l, rfl, l, ns.map V.str, rfl, .inl sql, ?_⟩
    rw [List.length_map]
    refine rs_no2 (fun H' => H' = H) (fun H' => H' = H ∧ 0 < ns.length) (fun Q1 qt qf => ?_) (fun H1 e => ?_) (fun H1 ⟨e, hpos⟩ => ?_)
    · refine ⟨_, rfl, rfl, _, rfl, ite2 (fun c0 => qt _ rfl) (fun c0 => ?_)⟩
      refine ⟨_, rfl, rfl, _, rfl, ?_⟩
      cases hb : decide (V.int (sh : Nat) = V.int 6) with
      | true => exact qt _ rfl
      | false => exact qf _ ⟨rfl, Nat.pos_of_ne_zero fun z => c0 (decide_eq_true (by rw [z]; rfl))⟩
    · subst e
      exact ⟨.ref a, rfl, .ref l, rfl, .bl wd, rfl, a, l, ns, wd, N, rfl, hP, hN, el, hnd, hnm, hlen, q⟩
    subst e
    refine rs_no2 (fun H' => H' = H1) (fun H' => H' = H1) (fun Q1 qt qf => ?_) (fun H2 e => ?_) (fun H2 e => ?_)
    · refine ⟨_, rfl, rfl, _, rfl, ?_⟩
      cases hb : decide (V.int (sh : Nat) = V.int 1) with
      | true => exact qt _ rfl
      | false => exact qf _ rfl
    · subst e
      exact ⟨.ref l, rfl, l, ns.map V.str, 0, _, rfl, rfl, sql, at_ns (j := 0) rfl hpos, by show 1 ≤ sizeLine; decide, fun p np => ret1 0 hpos _ (Same.refl _) p np⟩
    subst e
    have hq1 : 1 ≤ ns.length := hpos
    -- shape 2
    refine rs_no2 (fun H' => H' = H2) (fun H' => H' = H2) (fun Q1 qt qf => ?_) (fun H3 e => ?_) (fun H3 e => ?_)
    · refine ⟨_, rfl, rfl, _, rfl, ?_⟩
      cases hb : decide (V.int (sh : Nat) = V.int 2) with
      | true => exact qt _ rfl
      | false => exact qf _ rfl
    · subst e
      refine ⟨_, rfl, _, rfl, _, _, rfl, rfl, (by show (0 : Int) < _; omega), rfl, _, rfl, ite2 (fun c0 => ?_) (fun c0 => ?_)⟩
      · exact ⟨.ref l, rfl, l, ns.map V.str, 0, _, rfl, rfl, sql, at_ns (j := 0) rfl hpos, by show 1 ≤ sizeLine; decide, fun p np => ret1 0 hpos _ (Same.refl _) p np⟩
      · refine ⟨_, rfl, _, rfl, _, _, rfl, rfl, _, rfl, ite2 (fun c1 => ?_) (fun c1 => ?_)⟩
        · exact ⟨.ref l, rfl, l, ns.map V.str, 0, _, rfl, rfl, sql, at_ns (j := 0) rfl hpos, by show 1 ≤ sizeLine; decide, fun p np => ret1 0 hpos _ (Same.refl _) p np⟩
        · have hge : wi ≤ ns.length := by
            have : ¬ ((ns.length : Nat) : Int) < (wi : Nat) := fun z => c1 (decide_eq_true z)
            omega
          have d1 : ns.length / wi * wi ≤ ns.length := Nat.div_mul_le_self _ _
          have d2 : 1 ≤ ns.length / wi := (Nat.one_le_div_iff (by omega)).mpr hge
          have d3 : 1 * wi ≤ ns.length / wi * wi := Nat.mul_le_mul_right _ d2
          have hj : ns.length / wi * wi - wi + 1 < ns.length := by omega
          refine ⟨.ref l, rfl, _, rfl, _, rfl, _, _, rfl, rfl, (⟨by omega, by omega⟩ : CDiv _ _), _, rfl, _, _, rfl, rfl, .inr ⟨by omega, by omega⟩, _, rfl, _, _, rfl, rfl, _, _, rfl, rfl, l, ns.map V.str, _, _, rfl, rfl, sql, at_ns (j := ns.length / wi * wi - wi + 1) ?_ hj, by show 1 ≤ sizeLine; decide, fun p np => ret1 _ hj _ (Same.refl _) p np⟩
          have e1 : ((ns.length : Nat) : Int) / (wi : Nat) * (wi : Nat) = ((ns.length / wi * wi : Nat) : Int) := by rw [Int.natCast_mul]; rfl
          rw [e1]
          omega
    subst e
    -- shape 3
    refine rs_no2 (fun H' => H' = H3) (fun H' => H' = H3) (fun Q1 qt qf => ?_) (fun H4 e => ?_) (fun H4 e => ?_)
    · refine ⟨_, rfl, rfl, _, rfl, ?_⟩
      cases hb : decide (V.int (sh : Nat) = V.int 3) with
      | true => exact qt _ rfl
      | false => exact qf _ rfl
    · subst e
      refine ⟨_, rfl, _, _, rfl, rfl, (by show (0 : Int) < 2; decide), rfl, _, rfl, ite2 (fun c0 => ?_) (fun c0 => ?_)⟩
      · have h2 : 2 ≤ ns.length := by
          have := of_decide_eq_true c0
          injection this with this
          omega
        have hj : ns.length - 2 < ns.length := by omega
        exact ⟨.ref l, rfl, _, rfl, _, _, rfl, rfl, l, ns.map V.str, _, _, rfl, rfl, sql, at_ns (j := ns.length - 2) (by omega) hj, by show 1 ≤ sizeLine; decide, fun p np => ret1 _ hj _ (Same.refl _) p np⟩
      · have hj : ns.length - 1 < ns.length := by omega
        exact ⟨.ref l, rfl, _, rfl, _, _, rfl, rfl, l, ns.map V.str, _, _, rfl, rfl, sql, at_ns (j := ns.length - 1) (by omega) hj, by show 1 ≤ sizeLine; decide, fun p np => ret1 _ hj _ (Same.refl _) p np⟩
    subst e
    have md : ((ns.length : Nat) : Int) % (wi : Nat) = ((ns.length % wi : Nat) : Int) := rfl
    -- shape 4
    refine rs_no2 (fun H' => H' = H4 ∧ wd = false ∧ ns.length % wi = wi - 1 ∧ 2 < wi) (fun H' => H' = H4) (fun Q1 qt qf => ?_) (fun H5 ⟨e, c1, c2, c3⟩ => ?_) (fun H5 e => ?_)
    · refine ⟨_, rfl, rfl, _, rfl, ite2 (fun c0 => ?_) (fun c0 => qf _ rfl)⟩
      refine ⟨.bl wd, rfl, wd, rfl, ite2 (fun c1 => ?_) (fun c1 => qf _ rfl)⟩
      refine ⟨_, rfl, _, rfl, _, _, rfl, rfl, (by show (0 : Int) < _; omega), _, rfl, _, _, rfl, rfl, rfl, _, rfl, ite2 (fun c2 => ?_) (fun c2 => qf _ rfl)⟩
      refine ⟨_, rfl, _, _, rfl, rfl, _, rfl, ?_⟩
      cases hb : decide ((2 : Int) < (wi : Nat)) with
      | false => exact qf _ rfl
      | true =>
        refine qt _ ⟨rfl, by cases wd with | true => exact absurd c1 (by decide) | false => rfl, ?_, ?_⟩
        · have := of_decide_eq_true c2
          injection this with this
          rw [md] at this
          omega
        · have := of_decide_eq_true hb
          omega
    · subst e
      have hml := Nat.mod_le ns.length wi
      have hj1 : ns.length - 1 < ns.length := by omega
      have hj2 : ns.length + 1 - wi < ns.length := by omega
      refine r_ret ?_
      refine ⟨.ref l, rfl, _, rfl, _, _, rfl, rfl, l, ns.map V.str, _, _, rfl, rfl, sql, at_ns (j := ns.length - 1) (by omega) hj1, .ref l, rfl, _, rfl, _, _, rfl, rfl, _, rfl, _, _, rfl, rfl, l, ns.map V.str, _, _, rfl, rfl, sql, at_ns (j := ns.length + 1 - wi) (by omega) hj2, by show 2 ≤ sizeLine; decide, fun p np => ?_⟩
      refine ⟨p, [ns[ns.length - 1], ns[ns.length + 1 - wi]], rfl, sql_of upd_same, Nat.le_of_lt (smallM (by show 2 ≤ _; decide)), fun p2 n2 => ⟨p2, _, rfl, .inl ⟨sql_of upd_same, fun p3 n3 => ?_⟩⟩⟩
      refine retS _ c1 (fun z hz => ?_) (nodup2 hj2 hj1 (by omega)) _ ((same_upd np).trans (same_upd n2)) p3 n3
      simp only [List.mem_cons, List.not_mem_nil, or_false] at hz
      rcases hz with rfl | rfl <;> exact List.getElem_mem _
    subst e
    -- shape 5
    refine rs_no2 (fun H' => H' = H5 ∧ wd = false ∧ wi ≤ ns.length) (fun H' => H' = H5) (fun Q1 qt qf => ?_) (fun H6 ⟨e, c1, c2⟩ => ?_) (fun H6 e => ?_)
    · refine ⟨_, rfl, rfl, _, rfl, ite2 (fun c0 => ?_) (fun c0 => qf _ rfl)⟩
      refine ⟨.bl wd, rfl, wd, rfl, ite2 (fun c1 => ?_) (fun c1 => qf _ rfl)⟩
      refine ⟨_, rfl, _, rfl, _, _, rfl, rfl, _, rfl, ?_⟩
      cases hb : decide (((wi : Nat) : Int) ≤ (ns.length : Nat)) with
      | false => exact qf _ rfl
      | true =>
        refine qt _ ⟨rfl, by cases wd with | true => exact absurd c1 (by decide) | false => rfl, ?_⟩
        have := of_decide_eq_true hb
        omega
    · subst e
      have hj1 : ns.length - 1 < ns.length := by omega
      have hj2 : ns.length - wi < ns.length := by omega
      refine r_ret ?_
      refine ⟨.ref l, rfl, _, rfl, _, rfl, _, _, rfl, rfl, l, ns.map V.str, _, _, rfl, rfl, sql, at_ns (j := ns.length - wi) (by omega) hj2, by show 1 ≤ sizeLine; decide, fun p np => ?_⟩
      have s1 := same_upd (o := .lst [.str ns[ns.length - wi]]) np
      have fin : ∀ (zs : List Str) (l2 : Addr) (H2 : Hp), Same H6 H2 → H2 p = some (.lst [.str ns[ns.length - wi]]) → H2 l2 = some (.lst (zs.map V.str)) → (∀ z ∈ zs, z = ns[ns.length - 1]) → zs.length ≤ 1 → rCat (.ref p) (.ref l2) H2 fun x H3 => rSortT K [x] H3 fun y H4 => ∃ p ys, [y] = [V.ref p] ∧ ((SqL K H4 p ys ∧ ∀ l, H4 l = none → Q (V.ref l) (upd H4 l (HO.tup ys))) ∨ (SqT K H4 p ys ∧ Q (V.ref p) H4)) := by
        intro zs l2 H2 s2 f1 f2 hz hl
        refine ⟨p, l2, _, _, rfl, rfl, f1, f2, Nat.le_of_lt (smallM (by rw [List.length_map]; show 1 + _ ≤ _; omega)), fun l3 n3 => ?_⟩
        refine ⟨l3, ns[ns.length - wi] :: zs, rfl, sql_of upd_same, Nat.le_of_lt (smallM (by rw [List.length_cons]; omega)), fun p2 n2 => ⟨p2, _, rfl, .inl ⟨sql_of upd_same, fun p3 n3' => ?_⟩⟩⟩
        refine retS _ c1 (fun z hz2 => ?_) ?_ _ ((s2.trans (same_upd n3)).trans (same_upd n2)) p3 n3'
        · rcases List.mem_cons.mp hz2 with rfl | hz2
          · exact List.getElem_mem _
          · rw [hz z hz2]; exact List.getElem_mem _
        · cases zs with
          | nil => simp
          | cons z zs' =>
            have ez := hz z List.mem_cons_self
            have : zs' = [] := List.length_eq_zero_iff.mp (by rw [List.length_cons] at hl; omega)
            subst this ez
            exact nodup2' hj2 hj1 (by omega)
      refine ⟨_, rfl, _, rfl, _, _, rfl, rfl, (by show (0 : Int) < _; omega), _, _, rfl, rfl, _, rfl, ite2 (fun c0 => ?_) (fun c0 => ?_)⟩
      · refine ⟨.ref l, rfl, _, rfl, _, _, rfl, rfl, l, ns.map V.str, _, _, rfl, rfl, sql_of (s1 _ _ el), at_ns (j := ns.length - 1) (by omega) hj1, by show 1 ≤ sizeLine; decide, fun l2 n2 => ?_⟩
        exact fin [ns[ns.length - 1]] l2 _ (s1.trans (same_upd n2)) ((same_upd n2) _ _ upd_same) upd_same (fun z hz => List.mem_singleton.mp hz) (Nat.le_refl _)
      · exact ⟨Nat.zero_le _, fun l2 n2 => fin [] l2 _ (s1.trans (same_upd n2)) ((same_upd n2) _ _ upd_same) upd_same (fun _ z => nomatch z) (Nat.zero_le _)⟩
    subst e
    have hj : ns.length - 1 < ns.length := by omega
    exact ⟨.ref l, rfl, _, rfl, _, _, rfl, rfl, l, ns.map V.str, _, _, rfl, rfl, sql, at_ns (j := ns.length - 1) (by omega) hj, by show 1 ≤ sizeLine; decide, fun p np => ret1 _ hj _ (Same.refl _) p np⟩
end
end Hw

set_option Elab.async false
set_option linter.all false
set_option maxRecDepth 100000
set_option maxHeartbeats 4000000
namespace Hw
open PySem L2 PyProof.Rows
abbrev sGrown : Stmt := topS 45
theorem g4_of {K : PySem.W.Frag} {σ : L2.St} {H : Hp} {i j k m : Nat} {p : Addr} {x y z u : V} {R : L2.St → Hp → Prop} (e : SqT K H p [x, y, z, u]) (h : R ((((σ.set i (some x)).set j (some y)).set k (some z)).set m (some u)) H) : gTup K 4 (gCons (gName i) (gCons (gName j) (gCons (gName k) (gCons (gName m) gNil)))) (.ref p) σ H R :=
  ⟨p, [x, y, z, u], rfl, e, rfl, _, [y, z, u], rfl, _, [z, u], rfl, _, [u], rfl, _, [], rfl, rfl, h⟩
def WoodD (wd : Bool) (ds : List Deed) : Prop := wd = true → ∀ d ∈ ds, d.ties.length ≤ 1
def spGrown : Sp := fun vs H Q _ => ∃ (a l : Addr) (ns : List Str) (wd : Bool) (N : Nat), vs = [.ref a, .ref l, .bl wd] ∧ Pot H a N ∧ N < 300000000 ∧ H l = some (.lst (ns.map V.str)) ∧ ns.Nodup ∧ (∀ z ∈ ns, Nm z) ∧ ns.length ≤ 60 ∧
  ∀ p ds H', Hist ds → ds.length = ns.length → cameD ds = ns → liv ds = ns → WoodD wd ds → DeedsAt H' p ds → H p = none → p ≠ a → SameX a H H' → Pot H' a (N + 10 * ns.length + 5) → Q (.ref p) H'
/-- comings as they are made -/
structure GrowI (a dl hl : Addr) (ns : List Str) (wd : Bool) (H : Hp) (M i : Nat) (ds : List Deed) (qs : List Addr) (H' : Hp) : Prop where
  sx : SameX a H H'
  pot : Pot H' a M
  ed : H' dl = some (.lst (qs.map V.ref))
  dd : Paired (DeedAt H') qs ds
  eh : H' hl = some (.lst ((ns.take i).map V.str))
  hist : Hist ds
  came : cameD ds = ns.take i
  liv : liv ds = ns.take i
  len : ds.length = i
  wood : WoodD wd ds
theorem GrowI.step {a dl hl : Addr} {ns : List Str} {wd : Bool} {H H' H'' : Hp} {M M' i : Nat} {ds : List Deed} {qs : List Addr} (w : GrowI a dl hl ns wd H M i ds qs H') (s : SameX a H' H'') (hp : Pot H'' a M') : GrowI a dl hl ns wd H M' i ds qs H'' :=
  ⟨w.sx.trans s, hp, s _ _ (Ne.symm (pot_ne_refs w.pot w.ed)) w.ed, paired_mono (fun q d e => e.sx w.pot s) w.dd, s _ _ (Ne.symm (pot_ne_strs w.pot w.eh)) w.eh, w.hist, w.came, w.liv, w.len, w.wood⟩
section
variable {P : Program} {w : World} {K : PySem.W.Frag} {mg : Str → Option Value} {base : Heap}
theorem scGrown : FnScope ["pot", "names", "wood", "deeds", "here", "shape", "wide", "name"] ["pot", "names", "wood"] (defScope sGrown) := ⟨rfl, rfl, rfl, by decide +kernel, rfl, by decide +kernel, by decide +kernel⟩
theorem ok_grown {f fT fS : Addr} {fd fdT fdS : FuncData} {k : Nat} (F : Fun K "_law_grown" "_law_grown" sGrown f fd)
    (GT : FnOk P w K mg base CX0 k fT fdT ["pot", "upto"] spTake) (gT : mg "_law_take" = some (.ref fT)) (kT : PySem.W.keepIn K (.ref fT) = true) (bT : Binds K fdT ["pot", "upto"] [])
    (GS : FnOk P w K mg base CX0 k fS fdS ["pot", "here", "shape", "wide", "wood"] spShape) (gS : mg "_law_shape_ties" = some (.ref fS)) (kS : PySem.W.keepIn K (.ref fS) = true) (bS : Binds K fdS ["pot", "here", "shape", "wide", "wood"] []) :
    FnOk P w K mg base CX0 (k + 1) f fd ["pot", "names", "wood"] spGrown := by
  refine F.ok scGrown (fun vs H Q E h => ?_) (fun cdv A outer s H vs Q E hr h => ?_)
  · obtain ⟨a, l, ns, wd, N, rfl, _⟩ := h
    rfl
  · obtain ⟨a, l, ns, wd, N, rfl, hP, hN, el, hnd, hnm, hlen, q⟩ := h
    have hu := hu_of hr
    refine ⟨_, pss_cons (ps_asg (pe_tup (pa_cons (pe_lst pa_nil) (pa_cons (pe_lst pa_nil) (pa_cons (pe_call GT hr (by rfl) gT kT bT .nil pass0 (pa_cons (pv 0) (pa_cons pe_int pa_nil))) (pa_cons (pe_op op_add pe_int (pe_call GT hr (by rfl) gT kT bT .nil pass0 (pa_cons (pv 0) (pa_cons pe_int pa_nil)))) pa_nil)))))
        (pg_tup rfl (pgs_cons (pg_name (i := 3) scGrown.nd rfl (.inl rfl)) (pgs_cons (pg_name (i := 4) scGrown.nd rfl (.inl rfl)) (pgs_cons (pg_name (i := 5) scGrown.nd rfl (.inl rfl)) (pgs_cons (pg_name (i := 6) scGrown.nd rfl (.inl rfl)) pgs_nil))))))
      (pss_cons (ps_for PassesOwn.never rfl (pi_list (pv 1)) (pg_name (i := 7) scGrown.nd rfl (.inl rfl))
        (pss_cons (ps_expr (pe_bm PySem.F.plainAttrs_list PySem.F.slot_list_append PySem.F.type_list_append mt_append (pv 3) (pa_cons (pe_tup (pa_cons pe_str (pa_cons (pv 7) (pa_cons (pe_call GS hr (by rfl) gS kS bS .nil pass0 (pa_cons (pv 0) (pa_cons (pv 4) (pa_cons (pv 5) (pa_cons (pv 6) (pa_cons (pv 2) pa_nil)))))) pa_nil)))) pa_nil)))
        (pss_one (ps_expr (pe_bm PySem.F.plainAttrs_list PySem.F.slot_list_append PySem.F.type_list_append mt_append (pv 4) (pa_cons (pv 7) pa_nil))))))
      (pss_one (ps_ret (pv 3)))), ?_⟩
    refine rs_t ?_
    refine ⟨Nat.zero_le _, fun dl ndl => ⟨Nat.zero_le _, fun hl nhl => ?_⟩⟩
    have s1 := (same_upd (o := .lst []) ndl).trans (same_upd (o := .lst []) nhl)
    have e1d : (upd (upd H dl (.lst [])) hl (.lst [])) dl = some (.lst []) := (same_upd nhl) _ _ upd_same
    have e1h : (upd (upd H dl (.lst [])) hl (.lst [])) hl = some (.lst []) := upd_same
    have ndh : dl ≠ hl := ne_of_none upd_same nhl
    have nhl0 : H hl = none := (same_upd ndl).free nhl
    have hp1 := hP.same s1
    generalize (upd (upd H dl (.lst [])) hl (.lst [])) = H1 at s1 e1d e1h hp1 ⊢
    refine ⟨.ref a, rfl, a, 7, N, rfl, hp1, by omega, by decide, by decide, fun sh H2 sh0 sh1 s2 hp2 => ?_⟩
    refine ⟨.ref a, rfl, a, 6, _, rfl, hp2, by omega, by decide, by decide, fun wi H3 wi0 wi1 s3 hp3 => ?_⟩
    obtain ⟨sh, rfl⟩ : ∃ n : Nat, sh = (n : Int) := ⟨sh.toNat, by omega⟩
    obtain ⟨wi, rfl⟩ : ∃ n : Nat, wi = (n : Int) := ⟨wi.toNat, by omega⟩
    refine ⟨_, _, rfl, rfl, by show 4 ≤ sizeLine; decide, fun p4 n4 => g4_of (sqt_of upd_same) ?_⟩
    have ew : (fun i j : Int => V.int (i + j)) 2 (wi : Nat) = V.int ((2 + wi : Nat) : Int) := congrArg V.int (by show (2 : Int) + (wi : Nat) = ((2 + wi : Nat) : Int); omega)
    rw [ew]
    have wdl : dl ≠ a := fun z => hP.some (z ▸ ndl)
    have whl : hl ≠ a := fun z => hP.some (z ▸ nhl0)
    have s4 := same_upd (o := .tup [.ref dl, .ref hl, .int (sh : Nat), .int ((2 + wi : Nat) : Int)]) n4
    have w0 : GrowI a dl hl ns wd H (N + 2) 0 [] [] (upd H3 p4 (.tup [.ref dl, .ref hl, .int (sh : Nat), .int ((2 + wi : Nat) : Int)])) :=
      ⟨(SameX.of s1).trans (s2.trans (s3.trans (.of s4))), (hp3.same s4).mono (by omega), s4 _ _ (s3 _ _ wdl (s2 _ _ wdl e1d)), .nil, s4 _ _ (s3 _ _ whl (s2 _ _ whl e1h)), .nil, rfl, rfl, rfl, fun _ _ z => nomatch z⟩
    generalize (upd H3 p4 (.tup [.ref dl, .ref hl, .int (sh : Nat), .int ((2 + wi : Nat) : Int)])) = H4 at w0 ⊢
    clear s1 e1d e1h hp1 s2 hp2 s3 hp3 n4 s4 ew
    have nla := pot_ne_strs hP el
    refine rs_list l (ns.map V.str) (fun Q1 q1 => ⟨_, rfl, q1⟩) (fun i σ' H' => ∃ o7 ds qs, σ' = [some (.ref a), some (.ref l), some (.bl wd), some (.ref dl), some (.ref hl), some (.int (sh : Nat)), some (.int ((2 + wi : Nat) : Int)), o7] ∧ GrowI a dl hl ns wd H (N + 2 + 10 * i) i ds qs H')
      ⟨_, _, _, rfl, w0⟩ (fun i σ' H' _ ⟨_, _, _, _, w⟩ => sql_of (w.sx _ _ (Ne.symm nla) el)) ?_ ?_
    · rintro i x σ' H' hx ⟨o7, ds, qs, rfl, w⟩
      obtain ⟨z, hz, rfl⟩ := map_get hx
      have hi := (List.getElem?_eq_some_iff.mp hz).1
      have hzn := List.mem_of_getElem? hz
      have htl : (ns.take i).length ≤ 60 := by rw [List.length_take]; omega
      refine r_gname ?_
      refine rs_bm ?_
      refine ⟨.ref dl, rfl, .inl ⟨rfl, _, sql_of w.ed⟩, .str z, rfl, .ref a, rfl, .ref hl, rfl, _, rfl, _, rfl, .bl wd, rfl, ?_⟩
      refine ⟨a, hl, ns.take i, sh, 2 + wi, wd, _, rfl, w.pot, by omega, w.eh, hnd.sublist (List.take_sublist ..), fun y hy => hnm y (List.mem_of_mem_take hy), by omega, by omega, by omega, fun tq ts H5 hts hta htw etq s5 hp5 => ⟨by show 3 ≤ sizeLine; decide, fun p np => ?_⟩⟩
      have s6 := same_upd (o := .tup [.str (Str.ofString "come"), .str z, .ref tq]) np
      have w6 := w.step (s5.trans (.of s6)) (hp5.same s6)
      have etq6 := s6 _ _ etq
      have ep6 : (upd H5 p (.tup [.str (Str.ofString "come"), .str z, .ref tq])) p = some (.tup [.str sCome, .str z, .ref tq]) := upd_same
      generalize (upd H5 p (.tup [.str (Str.ofString "come"), .str z, .ref tq])) = H6 at w6 etq6 ep6 ⊢
      have hql : qs.length = i := by rw [Paired.length w6.dd, w6.len]
      refine ⟨dl, _, _, rfl, rfl, w6.ed, smallM (by rw [List.length_map]; omega), ?_⟩
      have k7 : ∀ {b : Addr} {o : HO}, b ≠ dl → H6 b = some o → (upd H6 dl (.lst (qs.map V.ref ++ [.ref p]))) b = some o := fun {b o} hb e => by rw [upd_ne hb]; exact e
      have eh7 := k7 (Ne.symm ndh) w6.eh
      refine ⟨.ref hl, rfl, .inl ⟨rfl, _, sql_of eh7⟩, .str z, rfl, hl, _, _, rfl, rfl, eh7, smallM (by rw [List.length_map]; omega), _, ds ++ [.come z ts], qs ++ [p], rfl, ?_⟩
      have k8 : ∀ {b : Addr} {o : HO}, b ≠ dl → b ≠ hl → H6 b = some o → (upd (upd H6 dl (.lst (qs.map V.ref ++ [.ref p]))) hl (.lst ((ns.take i).map V.str ++ [.str z]))) b = some o := fun {b o} hb hc e => by rw [upd_ne hc, upd_ne hb]; exact e
      have kd : ∀ (q : Addr) (d : Deed), DeedAt H6 q d → DeedAt (upd (upd H6 dl (.lst (qs.map V.ref ++ [.ref p]))) hl (.lst ((ns.take i).map V.str ++ [.str z]))) q d := fun q d e => by
        have kt : ∀ {b : Addr} {vs : List V}, H6 b = some (.tup vs) → (upd (upd H6 dl (.lst (qs.map V.ref ++ [.ref p]))) hl (.lst ((ns.take i).map V.str ++ [.str z]))) b = some (.tup vs) := fun {b vs} e => k8 (fun y => by rw [y, w6.ed] at e; cases e) (fun y => by rw [y, w6.eh] at e; cases e) e
        cases d with
        | come n ts =>
          obtain ⟨tq, h1, h2⟩ := e
          exact ⟨tq, kt h1, kt h2⟩
        | die n => exact kt e
      have hnew : z ∉ cameD ds := by rw [w.came]; exact nodup_take hnd hz
      refine ⟨fun b o hb e => k8 (ne_of_none e ndl) (ne_of_none e nhl0) (w6.sx b o hb e), ?_, ?_, ?_, ?_, .come w.hist (hnm z hzn) hnew hta (fun t ht => by rw [w.liv]; exact hts t ht), ?_, ?_, ?_, ?_⟩
      · obtain ⟨xx, yy, zz, e, hh⟩ := w6.pot.ex
        exact ⟨xx, yy, zz, k8 (Ne.symm wdl) (Ne.symm whl) e, by omega⟩
      · rw [upd_ne ndh, upd_same, List.map_append]; rfl
      · exact paired_snoc (kd p (.come z ts) ⟨tq, ep6, etq6⟩) (paired_mono kd w6.dd)
      · rw [upd_same, take_snoc hz, List.map_append]; rfl
      · rw [came_snoc, w.came, take_snoc hz]; rfl
      · rw [liv_snoc, w.liv, take_snoc hz]; rfl
      · rw [List.length_append, w.len]; rfl
      · intro hw d hd
        rcases List.mem_append.mp hd with hd | hd
        · exact w.wood hw d hd
        · rw [List.mem_singleton.mp hd]; exact htw hw
    · rintro σ' H' ⟨o7, ds, qs, rfl, w⟩
      rw [List.length_map] at w
      have hc := w.came
      have hv := w.liv
      rw [List.take_length] at hc hv
      exact ⟨.ref dl, rfl, q dl ds H' w.hist w.len hc hv w.wood ⟨qs, w.ed, w.dd⟩ ndl wdl w.sx (w.pot.mono (by omega))⟩
end
end Hw

set_option Elab.async false
set_option linter.all false
set_option maxRecDepth 100000
set_option maxHeartbeats 4000000
namespace Hw
open PySem L2 PyProof.Rows
abbrev sNextD : Stmt := topS 46
/-! sorted of pairs of a number and a text, whatever comes first -/
def npD (p : Nat × Str) : PyData := .tuple [.int (p.1 : Nat), .str p.2]
abbrev NpAt (H : Hp) (q : Addr) (p : Nat × Str) : Prop := H q = some (.tup [.int (p.1 : Nat), .str p.2])
def rSortNP (K : PySem.W.Frag) : List V → Hp → VK → Prop := fun vs H Q => ∃ (a : Addr) (qs : List Addr) (ps : List (Nat × Str)), vs = [V.ref a] ∧ SqL K H a (qs.map V.ref) ∧ Paired (NpAt H) qs ps ∧ ps.length ≤ sizeLine ∧
  ∀ (p : Addr) (qs' : List Addr), H p = none → (∀ q ∈ qs', q ∈ qs) → qs'.length = qs.length → Q (.ref p) (upd H p (.lst (qs'.map V.ref)))
section
variable {X : Cx}
theorem cr_sortNP (hu : X.A.units + 64 < cLine) : CallR X (.builtin "sorted") (rSortNP X.K) := by
  intro pins s σ H vs us Q I r h
  obtain ⟨a, qs, ps, rfl, hs, hp, hz, q⟩ := h
  obtain ⟨l, rfl, rfl, hl⟩ := zip_of hp
  have e1 : (l.map fun x => (V.ref x.1, npD x.2)).map (·.1) = (l.map (·.1)).map V.ref := by rw [List.map_map, List.map_map]; rfl
  have e2 : (l.map fun x => (V.ref x.1, npD x.2)).map (·.2) = (l.map (·.2)).map npD := by rw [List.map_map, List.map_map]; rfl
  rw [List.length_map] at hz
  refine cr_sortB hu pins s σ H _ us Q I r ⟨a, l.map fun x => (V.ref x.1, npD x.2), rfl, by rw [e1]; exact hs, fun b hb => ?_, ?_, ?_, by rw [List.length_map]; exact hz, fun p hp => ?_⟩
  · obtain ⟨z, hz, rfl⟩ := List.mem_map.mp hb
    refine ⟨.tup (sqt_of (hl z hz)) (.cons (Dp_flat rfl) (.cons (Dp_flat rfl) .nil)), ?_⟩
    show PyData.depth (npD z.2) ≤ 50
    unfold npD
    simp [PyData.depth, PyData.depthAll]
  · rw [e2]; exact PySem.W.AllAlike.of fun _ _ => by simp [PySem.W.alike, PySem.W.alikeAll, npD]
  · rw [e2]; exact PySem.W.Sortable.tuples (enc := npD) fun z => ⟨_, _, rfl⟩
  · have e : (l.map fun x => (V.ref x.1, npD x.2)).mergeSort (PySem.W.dataLe false (·.2)) = (l.mergeSort fun x y => PySem.W.dataLe false id (npD x.2) (npD y.2)).map fun x => (V.ref x.1, npD x.2) := by
      refine (List.map_mergeSort fun a _ b _ => ?_).symm
      rfl
    rw [e, List.map_map]
    have := q p ((l.mergeSort fun x y => PySem.W.dataLe false id (npD x.2) (npD y.2)).map (·.1)) hp (fun y hy => by
      obtain ⟨x, hx, rfl⟩ := List.mem_map.mp hy
      exact List.mem_map.mpr ⟨x, List.mem_mergeSort.mp hx, rfl⟩) (by rw [List.length_map, List.length_mergeSort, List.length_map])
    rw [List.map_map] at this
    exact this
def rNeNil : R2 := fun x y H Q => ∃ a b ks, x = .ref a ∧ y = .ref b ∧ H a = some (.dK ks) ∧ H b = some (.dK []) ∧ Q (.bl (decide (ks ≠ []))) H
theorem op_neNil (hu : X.A.units < cLine) : OpR X (compareOp .NotEq) rNeNil := by
  intro pins s σ H x y v u Q I rx ry h
  obtain ⟨a, b, ks, rfl, rfl, ea, eb, q⟩ := h
  obtain rfl : v = Value.ref a := rx
  obtain rfl : u = Value.ref b := ry
  obtain ⟨_, ya, va, ra, da⟩ := (show ObjOk X.prog X.w H s.heap a (.dK ks) from I.hok a _ ea)
  obtain ⟨_, yb, vb, rb, db⟩ := (show ObjOk X.prog X.w H s.heap b (.dK []) from I.hok b _ eb)
  have hla : ks.length = va.length := ra.length
  have hlb : 0 = vb.length := rb.length
  by_cases h0 : ks = []
  · subst h0
    exact PySem.W.keq_ne (knd := mixKind X.prog X.w) (r := true) ya yb da db hu (fun _ => hits_all rb ra (fun p hp => nomatch hp)) (fin_bl I q (by
      have : va.length = vb.length := by rw [← hla, ← hlb]; rfl
      simp [this]))
  · have hne : va.length ≠ vb.length := by
      have := List.length_pos_iff.mpr h0
      omega
    exact PySem.W.keq_ne (knd := mixKind X.prog X.w) (r := true) ya yb da db hu (fun e => absurd e hne) (fin_bl I q (by simp [h0, hne]))
end
end Hw

set_option Elab.async false
set_option linter.all false
set_option maxRecDepth 100000
set_option maxHeartbeats 4000000
namespace Hw
open PySem L2 PyProof.Rows
theorem at_lastV {xs : List V} (h : xs ≠ []) : atI xs (-1) = some (xs.getLast h) := by
  have e1 : xs = xs.dropLast ++ [xs.getLast h] := (List.dropLast_concat_getLast h).symm
  have := atI_last xs.dropLast (xs.getLast h)
  rw [← e1] at this
  exact this
theorem encL_put (ns : List Str) (z : Str) : putK (encL ns) (Sum.inr z) (V.bl true) = encL (if z ∈ ns then ns else ns ++ [z]) := by
  by_cases h : z ∈ ns
  · rw [if_pos h]
    unfold putK
    rw [valV_any, encL_val, if_pos h]
    show (if true = true then _ else _) = _
    rw [if_pos rfl]
    unfold encL
    rw [List.map_map]
    refine List.map_congr_left fun n _ => ?_
    show (if (Sum.inr n : Key) = Sum.inr z then ((Sum.inr n : Key), V.bl true) else _) = _
    split <;> rfl
  · rw [if_neg h, encL_new h]
theorem strs_flat (zs : List Str) : (zs.map V.str).all flatV = true := by
  rw [List.all_eq_true]
  intro y hy
  obtain ⟨z, _, rfl⟩ := List.mem_map.mp hy
  rfl
theorem rs_listR {K : PySem.W.Frag} {te : TE} {g : TG} {tb u : TS} {D : Ends} {σ : L2.St} {H : Hp} (P0 : Addr → List V → Hp → Prop) (Pv : Addr → List V → Hp → Nat → L2.St → Hp → Prop) (hw : ∀ Q : VK, (∀ l xs H1, P0 l xs H1 → Q (.ref l) H1) → te σ H Q) (h0 : ∀ l xs H1, P0 l xs H1 → Pv l xs H1 0 σ H1)
    (hl : ∀ l xs H1 i σ H, Pv l xs H1 i σ H → SqL K H l xs) (hs : ∀ l xs H1 i x σ H, P0 l xs H1 → xs[i]? = some x → Pv l xs H1 i σ H → g x σ H fun σ2 H2 => tb { D with nx := Pv l xs H1 (i + 1), ct := Pv l xs H1 (i + 1), bk := u D } σ2 H2)
    (hd : ∀ l xs H1 σ H, P0 l xs H1 → Pv l xs H1 xs.length σ H → u D σ H) : tSeq (tFor (iList K te) g tb) u D σ H :=
  hw _ fun l xs H1 p => ⟨l, rfl, ⟨_, hl _ _ _ _ _ _ (h0 l xs H1 p)⟩, for_list (D := { D with nx := u D }) (xs := xs) (Pv l xs H1) (h0 l xs H1 p) (fun i σ H _ q => hl _ _ _ _ _ _ q) (fun i x σ H hx q => hs l xs H1 i x σ H p hx q) (fun σ H q => hd l xs H1 σ H p q)⟩
/-- pairs of a number and a living name -/
def SomeAt (H : Hp) (l : Addr) (lv : List Str) : Prop := ∃ qs : List Addr, H l = some (.lst (qs.map V.ref)) ∧ qs.length = lv.length ∧ ∀ q ∈ qs, ∃ (c : Nat) (z : Str), z ∈ lv ∧ H q = some (.tup [.int (c : Nat), .str z])
theorem SomeAt.keep {H H' : Hp} {l : Addr} {lv : List Str} (h : SomeAt H l lv) (s : Same H H') : SomeAt H' l lv := by
  obtain ⟨qs, h1, h2, h3⟩ := h
  refine ⟨qs, s _ _ h1, h2, fun q hq => ?_⟩
  obtain ⟨c, z, m, e⟩ := h3 q hq
  exact ⟨c, z, m, s _ _ e⟩
def spNextD : Sp := fun vs H Q _ => ∃ (a l lv : Addr) (ds : List Deed) (wy : Nat) (N : Nat), vs = [.ref a, .ref l, .ref lv, .int wy] ∧ Pot H a N ∧ N < 400000000 ∧ DeedsAt H l ds ∧ Hist ds ∧ ds.length ≤ 100 ∧ H lv = some (.lst ((sortS (liv ds)).map V.str)) ∧ 0 < (liv ds).length ∧ wy < 7 ∧
  ∀ z H', z ∈ liv ds → SameX a H H' → Pot H' a (N + 2) → Q (.str z) H'
section
variable {P : Program} {w : World} {K : PySem.W.Frag} {mg : Str → Option Value} {base : Heap}
theorem scNextD : FnScope ["pot", "deeds", "living", "way", "counts", "some", "came", "beside", "here", "one", "other", "name", "deed"] ["pot", "deeds", "living", "way"] (defScope sNextD) := ⟨rfl, rfl, rfl, by decide +kernel, rfl, by decide +kernel, by decide +kernel⟩
theorem ok_nextd {f fO fC fE : Addr} {fd fdO fdC fdE : FuncData} {k : Nat} (F : Fun K "_law_next_dead" "_law_next_dead" sNextD f fd) (B : Blt mg) (bs : mg "sorted" = none) (bd : mg "dict" = none)
    (GO : FnOk P w K mg base CX0 k fO fdO ["pot", "some"] (spOf2 K)) (gO : mg "_law_of" = some (.ref fO)) (kO : PySem.W.keepIn K (.ref fO) = true) (bO : Binds K fdO ["pot", "some"] [])
    (GC : FnOk P w K mg base CX0 k fC fdC ["deeds"] spCounts) (gC : mg "_law_counts" = some (.ref fC)) (kC : PySem.W.keepIn K (.ref fC) = true) (bC : Binds K fdC ["deeds"] [])
    (GE : FnOk P w K mg base CX0 k fE fdE ["deeds"] spElder) (gE : mg "_law_elder" = some (.ref fE)) (kE : PySem.W.keepIn K (.ref fE) = true) (bE : Binds K fdE ["deeds"] []) :
    FnOk P w K mg base CX0 (k + 1) f fd ["pot", "deeds", "living", "way"] spNextD := by
  refine F.ok scNextD (fun vs H Q E h => ?_) (fun cdv A outer s H vs Q E hr h => ?_)
  · obtain ⟨a, l, lv, ds, wy, N, rfl, _⟩ := h
    rfl
  · obtain ⟨a, l, lv, ds, wy, N, rfl, hP, hN, hD, hH, hl, elv, hpos, hwy, q⟩ := h
    have hu := hu_of hr
    have hu64 := hr.units
    refine ⟨_, pss_cons (ps_set (i := 4) scNextD.nd rfl (.inr rfl) (pe_call GC hr (by rfl) gC kC bC .nil pass0 (pa_cons (pv 1) pa_nil)))
      (pss_cons (ps_set (i := 5) scNextD.nd rfl (.inl rfl) (pe_callB (cr_sortNP hu64) (by rfl) bs (by decide +kernel) (pa_cons (pe_lc (own := [("name", 11)]) (g := gName 11) (tt := tYes) rfl scNextD.nd (pi_list (pv 2))
          (blkOk_by (N := ["pot", "deeds", "living", "way", "counts", "some", "came", "beside", "here", "one", "other", "name", "deed"]) (sc := defScope sNextD) (by decide +kernel)) (fun _ _ _ _ _ => pg_name (i := 11) scNextD.nd rfl (Or.inl rfl)) (fun _ _ _ _ _ => pts_nil)
          (fun _ _ _ _ _ => pe_tup (pa_cons (pe_dget hu (pv 4) (pv 11) (fun _ _ => rfl)) (pa_cons (pv 11) pa_nil)))) pa_nil)))
      (pss_cons (ps_setLc (i := 6) (own := [("deed", 12)]) (g := gName 12) (tt := tAnd (tTest (tOp rEq (tOp (rIxT K) (tVar 12) (tC (.int 0))) (tC (.str (Str.ofString "come"))))) (tTest (tOp (rIn K false) (tOp (rIxT K) (tVar 12) (tC (.int 1))) (tVar 2)))) (te := tOp (rIxT K) (tVar 12) (tC (.int 1))) rfl scNextD.nd rfl rfl (sw_true rfl rfl rfl (by decide +kernel)) (pi_list (pv 1))
          (blkOk_by (N := ["pot", "deeds", "living", "way", "counts", "some", "came", "beside", "here", "one", "other", "name", "deed"]) (sc := defScope sNextD) (by decide +kernel)) (fun _ _ _ _ _ => pg_name (i := 12) scNextD.nd rfl (Or.inl rfl))
          (fun _ _ _ _ _ => pts_one (PW.pt (pw_and (pt_cmpR op_eq (pe_ix ix_tup (pv 12) pe_int (fun _ _ => rfl)) pe_str (nomark _)) (pw_and1 (pt_cmpR op_in_seq (pe_ix ix_tup (pv 12) pe_int (fun _ _ => rfl)) (pv 2) (by rfl)))))) (fun _ _ _ _ _ => pe_ix ix_tup (pv 12) pe_int (fun _ _ => rfl)))
      (pss_cons (ps_if (pt_cmpR op_lt (pv 3) pe_int (nomark _)) (pss_one (ps_ret (pe_ix ix_tup (pe_ix ix_list (pv 5) (pe_un un_neg pe_int) (fun _ _ => rfl)) pe_int (fun _ _ => rfl)))) pss_nil)
      (pss_cons (ps_if (pt_cmpR op_lt (pv 3) pe_int (nomark _)) (pss_one (ps_ret (pe_ix ix_list (pe_lst (pa_cons (pe_ix ix_tup (pe_ix ix_list (pv 5) pe_int (fun _ _ => rfl)) pe_int (fun _ _ => rfl)) (pa_cons (pe_ix ix_list (pv 6) pe_int (fun _ _ => rfl)) (pa_cons (pe_ix ix_list (pv 6) (pe_un un_neg pe_int) (fun _ _ => rfl)) pa_nil)))) (pe_op op_sub (pv 3) pe_int) (fun _ _ => rfl)))) pss_nil)
      (pss_cons (ps_if (pt_cmpR op_eq (pv 3) pe_int (nomark _))
        (pss_cons (ps_par (i := 7) (j := 8) rfl scNextD.nd rfl rfl (by decide) rfl rfl (pa_cons pe_dnewK (pa_cons (pe_callTy (call_dictP rfl) (by rfl) bd PyProof.Rows.boot_dict (pa_cons (pe_lc (own := [("name", 11)]) (g := gName 11) (tt := tYes) rfl scNextD.nd (pi_list (pv 2))
            (blkOk_by (N := ["pot", "deeds", "living", "way", "counts", "some", "came", "beside", "here", "one", "other", "name", "deed"]) (sc := defScope sNextD) (by decide +kernel)) (fun _ _ _ _ _ => pg_name (i := 11) scNextD.nd rfl (Or.inl rfl)) (fun _ _ _ _ _ => pts_nil)
            (fun _ _ _ _ _ => pe_tup (pa_cons (pv 11) (pa_cons pe_bl pa_nil)))) pa_nil)) pa_nil)) rfl)
        (pss_cons (ps_for PassesOwn.never rfl (pi_list (pe_ix ix_tup (pe_call GE hr (by rfl) gE kE bE .nil pass0 (pa_cons (pv 1) pa_nil)) pe_int (fun _ _ => rfl))) (pg_tup rfl (pgs_cons (pg_name (i := 9) scNextD.nd rfl (Or.inl rfl)) (pgs_cons (pg_name (i := 10) scNextD.nd rfl (Or.inl rfl)) pgs_nil)))
          (pss_one (ps_if (pt_cmpR op_ne (pe_cmp (pc_din hu (pv 9) (pv 8))) (pe_cmp (pc_din hu (pv 10) (pv 8))) (nomark _))
            (pss_one (ps_dput hu (pv 7) (pe_ifExp (pt_cmp (pc_din hu (pv 9) (pv 8))) (pv 9) (pv 10)) pe_bl rfl)) pss_nil)))
        (pss_one (ps_ret (pe_ifExp (pt_cmpR (op_neNil (Nat.lt_of_succ_lt hu)) (pv 7) pe_dnewK (nomark _)) (pe_call GO hr (by rfl) gO kO bO .nil pass0 (pa_cons (pv 0) (pa_cons (pe_callB (cr_sortT hu64) (by rfl) bs (by decide +kernel) (pa_cons (pe_callTy (call_list_dK rfl) (by rfl) B.list PyProof.Rows.boot_list (pa_cons (pv 7) pa_nil)) pa_nil)) pa_nil)))
          (pe_ix ix_tup (pe_ix ix_list (pv 5) (pe_un un_neg pe_int) (fun _ _ => rfl)) pe_int (fun _ _ => rfl))))))) pss_nil)
      (pss_one (ps_ret (pe_call GO hr (by rfl) gO kO bO .nil pass0 (pa_cons (pv 0) (pa_cons (pv 2) pa_nil)))))))))), ?_⟩
    obtain ⟨dq, eD0, pD0⟩ := id hD
    have hll := hH.liv_len
    have lvL : (sortS (liv ds)).length = (liv ds).length := (sortS_perm _).length_eq
    have lvM : ∀ {z : Str}, z ∈ sortS (liv ds) ↔ z ∈ liv ds := (sortS_perm _).mem_iff
    have nlv := pot_ne_strs hP elv
    refine rs_set ?_
    refine ⟨.ref l, rfl, l, ds, rfl, hD, hH, hl, fun d H1 s1 nd ed => ?_⟩
    refine rs_set ?_
    refine ⟨.ref lv, rfl, lv, rfl, ⟨_, sql_of (s1 _ _ elv)⟩, fun D nD => lc_list (xs := (sortS (liv ds)).map V.str) (fun i H' => ∃ qs : List Addr, Same H1 H' ∧ H' D = some (.lst (qs.map V.ref)) ∧ Paired (NpAt H') qs (((sortS (liv ds)).take i).map fun z => (cntD ds z, z))) ⟨[], same_upd nD, upd_same, .nil⟩ (fun i H' _ ⟨_, w, _⟩ => sql_of (w _ _ (s1 _ _ elv))) ?_ ?_⟩
    · rintro i x H' hx ⟨qs, sx, eD, hq⟩
      obtain ⟨z, hz, rfl⟩ := map_get hx
      have hzl := lvM.mp (List.mem_of_getElem? hz)
      have hql : qs.length ≤ 100 := by rw [Paired.length hq, List.length_map, List.length_take]; omega
      have g0 : DGet H' d (.str z) (some (natV (cntD ds) z)) := by
        have := DGet.k (k := Sum.inr z) (sx _ _ ed)
        rw [encF_val, if_pos (hH.liv_came z hzl)] at this
        exact this
      refine ⟨rfl, r_yes ?_⟩
      refine ⟨.ref d, rfl, .str z, rfl, d, _, rfl, g0, .str z, rfl, by show 2 ≤ sizeLine; decide, fun p np => ?_⟩
      have s2 := same_upd (o := .tup [.int (cntD ds z : Nat), .str z]) np
      have npD : p ≠ D := fun y => by rw [y, eD] at np; cases np
      refine ⟨_, s2 _ _ eD, smallM (by rw [List.length_map]; omega), qs ++ [p], fun b o e => ?_, by rw [upd_same, List.map_append]; rfl, ?_⟩
      · rw [upd_ne (ne_of_none e nD)]; exact s2 _ _ (sx _ _ e)
      · rw [take_snoc hz, List.map_append]
        refine paired_snoc ?_ (paired_mono (fun q t e => ?_) hq)
        · show (upd _ D _) p = _
          rw [upd_ne npD, upd_same]
        · have e : H' q = _ := e
          show (upd _ D _) q = _
          rw [upd_ne (fun y => by rw [y, eD] at e; cases e)]
          exact s2 _ _ e
    rintro H' ⟨qs, sx, eD, hq⟩
    rw [List.length_map, List.take_length] at hq
    have hql := Paired.length hq
    rw [List.length_map, lvL] at hql
    refine ⟨D, qs, _, rfl, sql_of eD, hq, Nat.le_of_lt (smallM (by rw [List.length_map]; omega)), fun p2 qs' n2 hsub hqs' => ?_⟩
    have s2 := same_upd (o := .lst (qs'.map V.ref)) n2
    have hS : SomeAt (upd H' p2 (.lst (qs'.map V.ref))) p2 (liv ds) := by
      refine ⟨qs', upd_same, by rw [hqs', hql], fun q hq2 => ?_⟩
      obtain ⟨j, hj⟩ := List.mem_iff_getElem?.mp (hsub q hq2)
      obtain ⟨t, ht, et⟩ := paired_get hq hj
      obtain ⟨z, hz, e⟩ := List.mem_map.mp (List.mem_of_getElem? ht)
      exact ⟨t.1, t.2, lvM.mp (by rw [← e]; exact hz), s2 _ _ et⟩
    have sH2 := (s1.trans sx).trans s2
    generalize (upd H' p2 (.lst (qs'.map V.ref))) = H2 at hS sH2 ⊢
    clear hsub hqs' n2 s2 hq hql eD sx nD D qs qs' ed nd s1
    -- came
    have eD2 := sH2 _ _ eD0
    have pD2 : Paired (DeedAt H2) dq ds := paired_mono (fun q d e => e.keep sH2) pD0
    have elv2 := sH2 _ _ elv
    refine rs_set ?_
    refine ⟨.ref l, rfl, l, rfl, ⟨_, sql_of eD2⟩, fun D nD => lc_list (xs := dq.map V.ref) (fun i H' => Same H2 H' ∧ H' D = some (.lst (((cameD (ds.take i)).filter fun z => decide (z ∈ liv ds)).map V.str))) ⟨same_upd nD, upd_same⟩ (fun i H' _ w => sql_of (w.1 _ _ eD2)) ?_ ?_⟩
    · rintro i x H' hx ⟨sx, eD⟩
      obtain ⟨qd, hq, rfl⟩ := map_get hx
      obtain ⟨e, he, ed⟩ := paired_get pD2 hq
      have ec : cameD (ds.take (i + 1)) = cameD (ds.take i) ++ if e.isCome = true then [e.name] else [] := by rw [take_snoc he, came_snoc]
      have hcl : ((cameD (ds.take i)).filter fun z => decide (z ∈ liv ds)).length ≤ 100 := Nat.le_trans (List.length_filter_le _ _) (Nat.le_trans (hH.came_take i) hl)
      obtain ⟨more, em⟩ := (ed.keep sx).two (K := K)
      refine ⟨rfl, .ref qd, rfl, qd, _, 0, .str e.word, rfl, rfl, sqt_of em, atI_nat (j := 0) rfl, rfl, _, congrArg V.bl (word_come e), ?_⟩
      cases hc : e.isCome with
      | false =>
        show if false = true then _ else _
        rw [if_neg Bool.false_ne_true]
        show if false = true then _ else _
        rw [if_neg Bool.false_ne_true]
        refine ⟨sx, ?_⟩
        rw [eD, ec, hc, if_neg Bool.false_ne_true, List.append_nil]
      | true =>
        show if true = true then _ else _
        rw [if_pos rfl]
        refine ⟨.ref qd, rfl, qd, _, 1, .str e.name, rfl, rfl, sqt_of em, atI_nat (j := 1) rfl, .ref lv, rfl, lv, _, rfl, .inl (sql_of (sx _ _ elv2)), rfl, strs_flat _, _, rfl, ?_⟩
        show if inV (.str e.name) ((sortS (liv ds)).map V.str) = true then _ else _
        rw [inV_str]
        have em2 : decide (e.name ∈ sortS (liv ds)) = decide (e.name ∈ liv ds) := by rw [decide_eq_decide]; exact lvM
        rw [em2]
        by_cases hm : e.name ∈ liv ds
        · rw [decide_eq_true hm, if_pos rfl]
          refine ⟨.ref qd, rfl, qd, _, 1, .str e.name, rfl, rfl, sqt_of em, atI_nat (j := 1) rfl, _, eD, smallM (by rw [List.length_map]; omega), fun b o eb => ?_, ?_⟩
          · rw [upd_ne (ne_of_none eb nD)]; exact sx _ _ eb
          · rw [upd_same, ec, hc, if_pos rfl, List.filter_append, List.map_append, List.filter_cons_of_pos (by exact decide_eq_true hm)]; rfl
        · rw [decide_eq_false hm, if_neg Bool.false_ne_true]
          refine ⟨sx, ?_⟩
          rw [eD, ec, hc, if_pos rfl, List.filter_append, List.filter_cons_of_neg (by rw [decide_eq_false hm]; exact Bool.false_ne_true), List.filter_nil, List.append_nil]
    rintro H' ⟨sx, eD⟩
    rw [List.length_map, Paired.length pD2, List.take_length] at eD
    have s3 := sH2.trans sx
    have hS3 := hS.keep sx
    have elv3 := sx _ _ elv2
    have hcm : ∀ z ∈ (cameD ds).filter (fun z => decide (z ∈ liv ds)), z ∈ liv ds := fun z hz => of_decide_eq_true (List.mem_filter.mp hz).2
    have hcp : 0 < ((cameD ds).filter fun z => decide (z ∈ liv ds)).length := by
      obtain ⟨z, hz⟩ := List.exists_mem_of_length_pos hpos
      exact List.length_pos_of_mem (List.mem_filter.mpr ⟨hH.liv_came z hz, decide_eq_true hz⟩)
    generalize ((cameD ds).filter fun z => decide (z ∈ liv ds)) = cm at eD hcm hcp
    have hP3 := hP.same s3
    clear hS sH2 eD2 pD2 elv2 sx nD
    obtain ⟨qs, eS, hqs, hSm⟩ := id hS3
    have qpos : 0 < qs.length := by rw [hqs]; exact hpos
    have qne : qs.map V.ref ≠ [] := by
      intro e
      have := congrArg List.length e
      rw [List.length_map] at this
      rw [this] at qpos
      cases qpos
    obtain ⟨ql, ez, cz, zz, hzl, eqz⟩ : ∃ (ql : Addr) (_ : atI (qs.map V.ref) (-1) = some (.ref ql)) (c : Nat) (z : Str), z ∈ liv ds ∧ H' ql = some (.tup [.int (c : Nat), .str z]) := by
      have hm := List.getLast_mem qne
      obtain ⟨q, hq, e⟩ := List.mem_map.mp hm
      obtain ⟨c, z, h1, h2⟩ := hSm q hq
      exact ⟨q, by rw [at_lastV qne, ← e], c, z, h1, h2⟩
    have retL : ∀ (σ' : L2.St) (H4 : Hp) (Q' : VK), σ'[5]? = some (some (.ref p2)) → Same H' H4 → Q' (.str zz) H4 → tOp (rIxT K) (tOp (rIxL K) (tVar 5) (tUn (rU fun i => V.int (-i)) (tC (.int 1)))) (tC (.int 1)) σ' H4 Q' := fun σ' H4 Q' hσ s4 q' =>
      ⟨.ref p2, hσ, 1, rfl, p2, qs.map V.ref, _, _, rfl, rfl, sql_of (s4 _ _ eS), ez, ql, _, 1, .str zz, rfl, rfl, sqt_of (s4 _ _ eqz), rfl, q'⟩
    have Qz : ∀ z H4, z ∈ liv ds → Same H' H4 → Q (.str z) H4 := fun z H4 hz s4 => q z H4 hz (SameX.of (s3.trans s4)) ((hP3.same s4).mono (by omega))
    refine rs_no2 (fun H4 => H4 = H') (fun H4 => H4 = H' ∧ 2 ≤ wy) (fun Q1 qt qf => ?_) (fun H4 e => ?_) (fun H4 ⟨e, wy2⟩ => ?_)
    · refine ⟨_, rfl, _, _, rfl, rfl, _, rfl, ?_⟩
      cases hb : decide (((wy : Nat) : Int) < 2) with
      | true => exact qt _ rfl
      | false => exact qf _ ⟨rfl, by have := of_decide_eq_false hb; omega⟩
    · subst e
      exact retL _ H4 Q rfl (Same.refl _) (Qz zz H4 hzl (Same.refl _))
    subst e
    refine rs_no2 (fun H5 => H5 = H4 ∧ wy < 5) (fun H5 => H5 = H4) (fun Q1 qt qf => ?_) (fun H5 ⟨e, w5⟩ => ?_) (fun H5 e => ?_)
    · refine ⟨_, rfl, _, _, rfl, rfl, _, rfl, ?_⟩
      cases hb : decide (((wy : Nat) : Int) < 5) with
      | true => exact qt _ ⟨rfl, by have := of_decide_eq_true hb; omega⟩
      | false => exact qf _ rfl
    · subst e
      refine r_ret ?_
      obtain ⟨q0, hq0⟩ : ∃ q0, qs[0]? = some q0 := ⟨qs[0], List.getElem?_eq_getElem qpos⟩
      obtain ⟨c0, z0, hz0, eq0⟩ := hSm q0 (List.mem_of_getElem? hq0)
      refine ⟨.ref p2, rfl, p2, qs.map V.ref, 0, .ref q0, rfl, rfl, sql_of eS, atI_nat (j := 0) (by rw [List.getElem?_map, hq0]; rfl), q0, _, 1, .str z0, rfl, rfl, sqt_of eq0, rfl,
        .ref D, rfl, D, cm.map V.str, 0, _, rfl, rfl, sql_of eD, at_ns (j := 0) rfl hcp, .ref D, rfl, 1, rfl, D, cm.map V.str, _, _, rfl, rfl, sql_of eD, at_last hcp, by show 3 ≤ sizeLine; decide, fun p np => ?_⟩
      have sn := same_upd (o := .lst [.str z0, .str cm[0], .str (cm[cm.length - 1]'(by omega))]) np
      have hw : wy = 2 ∨ wy = 3 ∨ wy = 4 := by omega
      rcases hw with rfl | rfl | rfl
      · exact ⟨_, rfl, _, _, rfl, rfl, p, _, _, .str z0, rfl, rfl, sql_of upd_same, rfl, Qz _ _ hz0 sn⟩
      · exact ⟨_, rfl, _, _, rfl, rfl, p, _, _, .str cm[0], rfl, rfl, sql_of upd_same, rfl, Qz _ _ (hcm _ (List.getElem_mem _)) sn⟩
      · exact ⟨_, rfl, _, _, rfl, rfl, p, _, _, .str (cm[cm.length - 1]'(by omega)), rfl, rfl, sql_of upd_same, rfl, Qz _ _ (hcm _ (List.getElem_mem _)) sn⟩
    subst e
    have fin : ∀ (σ' : L2.St), σ'[0]? = some (some (.ref a)) → σ'[2]? = some (some (.ref lv)) → tCall (spOf2 K) [] E0 (tCons (tVar 0) (tCons (tVar 2) tNil)) σ' H5 Q := fun σ' h0 h2 =>
      ⟨.ref a, h0, .ref lv, h2, .inl ⟨a, lv, (sortS (liv ds)).map V.str, N, rfl, hP3, by omega, sql_of elv3, nlv, by rw [List.length_map, lvL]; exact hpos, by rw [List.length_map, lvL]; omega, fun ix v H6 hv s6 hp6 => by
        obtain ⟨z, hz, rfl⟩ := map_get hv
        exact q z H6 (lvM.mp (List.mem_of_getElem? hz)) ((SameX.of s3).trans s6) (hp6.mono (by omega))⟩⟩
    refine rs_no2 (fun H6 => H6 = H5) (fun H6 => H6 = H5) (fun Q1 qt qf => ?_) (fun H6 e => ?_) (fun H6 e => ?_)
    · refine ⟨_, rfl, rfl, _, rfl, ?_⟩
      cases hb : decide (V.int (wy : Nat) = V.int 5) with
      | true => exact qt _ rfl
      | false => exact qf _ rfl
    · subst e
      refine rs_par ?_
      intro be nbe
      have sb := same_upd (o := .dK []) nbe
      have ebe : (upd H6 be (.dK [])) be = some (.dK (encL [])) := upd_same
      have elvb := sb _ _ elv3
      generalize (upd H6 be (.dK [])) = Hb at sb ebe elvb ⊢
      refine ⟨.ref lv, rfl, lv, rfl, ⟨_, sql_of elvb⟩, fun D1 nD1 => lc_list (xs := (sortS (liv ds)).map V.str) (fun i H' => ∃ tp : List Addr, Same Hb H' ∧ H' D1 = some (.lst (tp.map V.ref)) ∧ Paired (fun q n => H' q = some (.tup [.str n, .bl true])) tp ((sortS (liv ds)).take i)) ⟨[], same_upd nD1, upd_same, .nil⟩ (fun i H' _ ⟨_, w, _⟩ => sql_of (w _ _ elvb)) ?_ ?_⟩
      · rintro i x H' hx ⟨tp, sx, eD1, hp⟩
        obtain ⟨z, hz, rfl⟩ := map_get hx
        have htp : tp.length ≤ 100 := by rw [Paired.length hp, List.length_take]; omega
        refine ⟨rfl, r_yes ?_⟩
        refine ⟨.str z, rfl, by show 2 ≤ sizeLine; decide, fun p np => ?_⟩
        have s2 := same_upd (o := .tup [.str z, .bl true]) np
        have npD : p ≠ D1 := fun y => by rw [y, eD1] at np; cases np
        refine ⟨_, s2 _ _ eD1, smallM (by rw [List.length_map]; omega), tp ++ [p], fun b o e => ?_, by rw [upd_same, List.map_append]; rfl, ?_⟩
        · rw [upd_ne (ne_of_none e nD1)]; exact s2 _ _ (sx _ _ e)
        · rw [take_snoc hz]
          refine paired_snoc ?_ (paired_mono (fun q n e => ?_) hp)
          · rw [upd_ne npD, upd_same]
          · rw [upd_ne (fun y => by rw [y, eD1] at e; cases e)]
            exact s2 _ _ e
      rintro H' ⟨tp, sx, eD1, hp⟩
      rw [List.length_map, List.take_length] at hp
      refine ⟨D1, tp, encL (sortS (liv ds)), rfl, sql_of eD1, paired_map (paired_mono (fun q n e => sqt_of e) hp), fun he nhe => ?_⟩
      have hnL : (sortS (liv ds)).Nodup := (sortS_perm _).nodup_iff.mpr hH.liv_nodup
      rw [mergeK_new (by unfold encL; rw [List.nil_append, List.map_map]; exact List.Pairwise.map _ (fun a b h e => h (Sum.inr.inj e)) hnL), List.nil_append]
      have s7 := same_upd (o := .dK (encL (sortS (liv ds)))) nhe
      have ehe : (upd H' he (.dK (encL (sortS (liv ds))))) he = some (.dK (encL (sortS (liv ds)))) := upd_same
      have ebe7 := s7 _ _ (sx _ _ ebe)
      have s67 : Same H6 (upd H' he (.dK (encL (sortS (liv ds))))) := (sb.trans sx).trans s7
      have nhb : he ≠ be := fun y => by rw [y, sx _ _ ebe] at nhe; cases nhe
      generalize (upd H' he (.dK (encL (sortS (liv ds))))) = H7 at ehe ebe7 s67 ⊢
      clear nD1 eD1 hp sx s7 sb elvb ebe
      refine ⟨_, _, rfl, ?_⟩
      refine rs_listR (fun l' xs H1 => ∃ us : List Addr, xs = us.map V.ref ∧ Same H7 H1 ∧ H1 l' = some (.lst xs) ∧ Paired (TieL H1) us (sortP (elderT ds)))
        (fun l' xs H1 i σ' H' => ∃ (o9 o10 : Option V) (us : List Addr) (bs : List Str), σ' = [some (.ref a), some (.ref l), some (.ref lv), some (.int wy), some (.ref d), some (.ref p2), some (.ref D), some (.ref be), some (.ref he), o9, o10, none, none] ∧ Same H6 H' ∧ H' he = some (.dK (encL (sortS (liv ds)))) ∧ H' be = some (.dK (encL bs)) ∧ (∀ z ∈ bs, z ∈ liv ds) ∧ bs.Nodup ∧ xs = us.map V.ref ∧ H' l' = some (.lst xs) ∧ Paired (TieL H') us (sortP (elderT ds)))
        (fun Q1 q1 => ?_) (fun l' xs H1 ⟨us, w1, w2, w3, w4⟩ => ⟨_, _, us, [], rfl, s67.trans w2, w2 _ _ ehe, w2 _ _ ebe7, (fun _ z => nomatch z), List.nodup_nil, w1, w3, w4⟩) (fun l' xs H1 i σ' H' ⟨_, _, _, _, _, _, _, _, _, _, _, w, _⟩ => sql_of w) ?_ ?_
      · exact ⟨.ref l, rfl, l, ds, rfl, (hD.keep s3).keep s67, hH, hl, fun p H8 s8 np ⟨pl, tl, us, w1, w2, w3, w4⟩ => ⟨p, [.ref pl, .ref tl], 1, .ref tl, rfl, rfl, sqt_of w1, rfl, q1 tl (us.map V.ref) H8 ⟨us, rfl, s8, w3, w4⟩⟩⟩
      · rintro l' xs H1 i x σ' H' _ hx ⟨o9, o10, us, bs, rfl, sx, eh, eb, hb1, hb2, rfl, el', hu'⟩
        obtain ⟨q', hq', rfl⟩ := map_get hx
        obtain ⟨t, ht, et⟩ := paired_get hu' hq'
        have bl : bs.length ≤ 100 := Nat.le_trans (len_sub hb1 hb2) (by omega)
        refine ⟨q', [.str t.1, .str t.2], rfl, sqt_of et, rfl, _, [.str t.2], rfl, _, [], rfl, rfl, ?_⟩
        have g1 : DGet H' he (.str t.1) (valV (encL (sortS (liv ds))) (Sum.inr t.1)) := DGet.k (k := Sum.inr t.1) eh
        have g2 : DGet H' he (.str t.2) (valV (encL (sortS (liv ds))) (Sum.inr t.2)) := DGet.k (k := Sum.inr t.2) eh
        have v1 : ∀ z, (valV (encL (sortS (liv ds))) (Sum.inr z)).isSome = decide (z ∈ liv ds) := fun z => by
          rw [encL_val]
          by_cases m : z ∈ liv ds
          · rw [if_pos (lvM.mpr m), decide_eq_true m]; rfl
          · rw [if_neg (fun h => m (lvM.mp h)), decide_eq_false m]; rfl
        have nx : ∀ z, z ∈ liv ds → ∃ (o9 o10 : Option V) (us' : List Addr) (bs' : List Str), ([some (.ref a), some (.ref l), some (.ref lv), some (.int wy), some (.ref d), some (.ref p2), some (.ref D), some (.ref be), some (.ref he), some (.str t.1), some (.str t.2), none, none] : L2.St) = [some (.ref a), some (.ref l), some (.ref lv), some (.int wy), some (.ref d), some (.ref p2), some (.ref D), some (.ref be), some (.ref he), o9, o10, none, none] ∧ Same H6 (upd H' be (.dK (putK (encL bs) (Sum.inr z) (.bl true)))) ∧ (upd H' be (.dK (putK (encL bs) (Sum.inr z) (.bl true)))) he = some (.dK (encL (sortS (liv ds)))) ∧ (upd H' be (.dK (putK (encL bs) (Sum.inr z) (.bl true)))) be = some (.dK (encL bs')) ∧ (∀ z ∈ bs', z ∈ liv ds) ∧ bs'.Nodup ∧ us.map V.ref = us'.map V.ref ∧ (upd H' be (.dK (putK (encL bs) (Sum.inr z) (.bl true)))) l' = some (.lst (us.map V.ref)) ∧ Paired (TieL (upd H' be (.dK (putK (encL bs) (Sum.inr z) (.bl true))))) us' (sortP (elderT ds)) := by
          intro z hz
          refine ⟨_, _, us, if z ∈ bs then bs else bs ++ [z], rfl, fun b o e => ?_, ?_, ?_, ?_, ?_, rfl, ?_, ?_⟩
          · rw [upd_ne (ne_of_none e nbe)]; exact sx _ _ e
          · rw [upd_ne nhb]; exact eh
          · rw [upd_same, encL_put]
          · intro y hy
            by_cases m : z ∈ bs
            · rw [if_pos m] at hy; exact hb1 y hy
            · rw [if_neg m] at hy
              rcases List.mem_append.mp hy with hy | hy
              · exact hb1 y hy
              · rw [List.mem_singleton.mp hy]; exact hz
          · by_cases m : z ∈ bs
            · rw [if_pos m]; exact hb2
            · rw [if_neg m, List.nodup_append]
              exact ⟨hb2, by simp, fun x hx y hy e => m (by rw [List.mem_singleton.mp hy] at e; exact e ▸ hx)⟩
          · rw [upd_ne (fun y => by rw [y, eb] at el'; cases el')]; exact el'
          · exact paired_mono (fun q u e => by
              have e : H' q = _ := e
              show (upd _ be _) q = _
              rw [upd_ne (fun y => by rw [y, eb] at e; cases e)]
              exact e) hu'
        have dpk : ∀ z, DPut H' be (.str z) (.bl true) (upd H' be (.dK (putK (encL bs) (Sum.inr z) (.bl true)))) := fun z => DPut.k (k := Sum.inr z) eb (smallM (by rw [encL_len]; omega))
        refine ⟨.str t.1, rfl, .ref he, rfl, he, _, rfl, g1, .str t.2, rfl, .ref he, rfl, he, _, rfl, g2, rfl, _, rfl, ite2 (fun c => ?_) (fun c => ?_)⟩
        · rw [v1, v1] at c
          refine ⟨.ref be, rfl, .str t.1, rfl, .ref he, rfl, he, _, rfl, g1, _, rfl, ite2 (fun m => ?_) (fun m => ?_)⟩
          · rw [v1] at m
            exact ⟨.str t.1, rfl, be, _, rfl, dpk t.1, nx t.1 (of_decide_eq_true m)⟩
          · rw [v1] at m
            refine ⟨.str t.2, rfl, be, _, rfl, dpk t.2, nx t.2 ?_⟩
            by_cases m2 : t.2 ∈ liv ds
            · exact m2
            · exfalso
              have m1 : t.1 ∉ liv ds := fun h => m (decide_eq_true h)
              rw [decide_eq_false m1, decide_eq_false m2] at c
              exact absurd c (by decide)
        · exact ⟨_, _, us, bs, rfl, sx, eh, eb, hb1, hb2, rfl, el', hu'⟩
      · rintro l' xs H1 σ' H' _ ⟨o9, o10, us, bs, rfl, sx, eh, eb, hb1, hb2, _, _, _⟩
        have bl : bs.length ≤ 100 := Nat.le_trans (len_sub hb1 hb2) (by omega)
        refine r_ret ?_
        refine ⟨.ref be, rfl, fun nl nnl => ⟨be, nl, encL bs, rfl, rfl, (same_upd nnl) _ _ eb, upd_same, _, rfl, ite2 (fun c => ?_) (fun c => ?_)⟩⟩
        · have sA := sx.trans (same_upd (o := .dK []) nnl)
          have bpos : 0 < bs.length := by
            cases bs with
            | nil => exact absurd c (by decide)
            | cons x l => exact Nat.succ_pos _
          refine ⟨.ref a, rfl, .ref be, rfl, be, _, rfl, (same_upd nnl) _ _ eb, fun p1 n1 => ?_⟩
          rw [encL_keys]
          refine ⟨p1, bs, rfl, sql_of upd_same, Nat.le_of_lt (smallM (by omega)), fun p3 n3 => ?_⟩
          have sB := (sA.trans (same_upd (o := .lst (bs.map V.str)) n1)).trans (same_upd (o := .lst ((sortS bs).map V.str)) n3)
          have hpB := hP3.same sB
          have ep3 : (upd (upd (upd H' nl (.dK [])) p1 (.lst (bs.map V.str))) p3 (.lst ((sortS bs).map V.str))) p3 = some (.lst ((sortS bs).map V.str)) := upd_same
          have sl : (sortS bs).length = bs.length := (sortS_perm _).length_eq
          refine .inl ⟨a, p3, (sortS bs).map V.str, N, rfl, hpB, by omega, sql_of ep3, pot_ne_strs hpB ep3, by rw [List.length_map, sl]; exact bpos, by rw [List.length_map, sl]; omega, fun ix v H8 hv s8 hp8 => ?_⟩
          obtain ⟨z, hz, rfl⟩ := map_get hv
          exact q z H8 (hb1 z ((sortS_perm _).mem_iff.mp (List.mem_of_getElem? hz))) ((SameX.of (s3.trans sB)).trans s8) (hp8.mono (by omega))
        · have sA := sx.trans (same_upd (o := .dK []) nnl)
          exact retL _ _ Q rfl sA (Qz zz _ hzl sA)
    subst e
    exact fin _ rfl rfl
end
end Hw

set_option Elab.async false
set_option linter.all false
set_option maxRecDepth 100000
set_option maxHeartbeats 4000000
namespace Hw
open PySem L2 PyProof.Rows
abbrev sHist : Stmt := topS 47
theorem cut_to (xs : List V) (k : Nat) : cutV xs none (some (k : Int)) = xs.take k := by
  unfold cutV
  rw [HT.sIx_none, HT.sIx_nat, Nat.sub_zero, List.drop_zero]
  by_cases h : k ≤ xs.length
  · rw [Nat.min_eq_left h]
  · rw [Nat.min_eq_right (by omega), List.take_length, List.take_of_length_le (by omega)]
theorem cut_from (xs : List V) (k : Nat) : cutV xs (some (k : Int)) none = xs.drop k := by
  unfold cutV
  rw [HT.sIx_none, HT.sIx_nat]
  by_cases h : k ≤ xs.length
  · rw [Nat.min_eq_left h, List.take_of_length_le (by rw [List.length_drop]; omega)]
  · rw [Nat.min_eq_right (by omega), List.drop_length, List.take_nil, List.drop_of_length_le (by omega)]
theorem if_two {t : TT} {A B : TS} {D : Ends} {σ : L2.St} {H : Hp} (R1 R2 : Hp → Prop) (ht : ∀ Q : Bool → Hp → Prop, (∀ H', R1 H' → Q true H') → (∀ H', R2 H' → Q false H') → t σ H Q) (h1 : ∀ H', R1 H' → A D σ H') (h2 : ∀ H', R2 H' → B D σ H') : tIfS t A B D σ H :=
  ht _ (fun H' r => by show if true = true then _ else _; rw [if_pos rfl]; exact h1 H' r) (fun H' r => by show if false = true then _ else _; rw [if_neg Bool.false_ne_true]; exact h2 H' r)
theorem rs_rngE {wi : TI} {g : TG} {tb u : TS} {D : Ends} {σ : L2.St} {H : Hp} (lo : Int) (P0 : Nat → Hp → Prop) (Pv : Nat → Nat → L2.St → Hp → Prop) (hw : ∀ R : It → Hp → Prop, (∀ n H1, P0 n H1 → R (Itr lo n) H1) → wi σ H R) (h0 : ∀ n H1, P0 n H1 → Pv n 0 σ H1)
    (hs : ∀ n i σ H, i < n → Pv n i σ H → g (.int (lo + i)) σ H fun σ2 H2 => tb { D with nx := Pv n (i + 1), ct := Pv n (i + 1), bk := u D } σ2 H2) (hd : ∀ n σ H, Pv n n σ H → u D σ H) : tSeq (tFor wi g tb) u D σ H :=
  hw _ fun n H1 p => for_range (D := { D with nx := u D }) (Pv n) (h0 n H1 p) (hs n) (hd n)
theorem rs_setP {te : TE} {i : Nat} {u : TS} {D : Ends} {σ : L2.St} {H : Hp} (P0 : V → Hp → Prop) (hw : ∀ Q : VK, (∀ v H1, P0 v H1 → Q v H1) → te σ H Q) (h : ∀ v H1, P0 v H1 → u D (σ.set i (some v)) H1) : tSeq (tAsg te (gName i)) u D σ H := rs_set (hw _ h)
/-- a history as it is drawn -/
structure HistI (a dl sp : Addr) (wd : Bool) (H : Hp) (M pl mo i : Nat) (ds : List Deed) (qs : List Addr) (ss : List Str) (H' : Hp) : Prop where
  sx : SameX a H H'
  pot : Pot H' a M
  ed : H' dl = some (.lst (qs.map V.ref))
  dd : Paired (DeedAt H') qs ds
  es : H' sp = some (.lst (ss.map V.str))
  hist : Hist ds
  wood : WoodD wd ds
  nod : (cameD ds ++ ss).Nodup
  nm : ∀ z ∈ ss, Nm z
  len : ds.length ≤ pl + i
  few : mo ≤ ss.length + i
  sl : ss.length ≤ mo
theorem HistI.step {a dl sp : Addr} {wd : Bool} {H H' H'' : Hp} {M M' pl mo i : Nat} {ds : List Deed} {qs : List Addr} {ss : List Str} (w : HistI a dl sp wd H M pl mo i ds qs ss H') (s : SameX a H' H'') (hp : Pot H'' a M') : HistI a dl sp wd H M' pl mo i ds qs ss H'' :=
  ⟨w.sx.trans s, hp, s _ _ (Ne.symm (pot_ne_refs w.pot w.ed)) w.ed, paired_mono (fun q d e => e.sx w.pot s) w.dd, s _ _ (Ne.symm (pot_ne_strs w.pot w.es)) w.es, w.hist, w.wood, w.nod, w.nm, w.len, w.few, w.sl⟩
/-- what is put to the deeds' list keeps all that is no list of names or of deeds -/
theorem HistI.kd {a dl sp : Addr} {wd : Bool} {H H' H2 : Hp} {M pl mo i : Nat} {ds : List Deed} {qs : List Addr} {ss : List Str} (w : HistI a dl sp wd H M pl mo i ds qs ss H') (k : ∀ b o, b ≠ dl → b ≠ sp → H' b = some o → H2 b = some o) : ∀ (q : Addr) (d : Deed), DeedAt H' q d → DeedAt H2 q d := fun q d e => by
  have kt : ∀ {b : Addr} {vs : List V}, H' b = some (.tup vs) → H2 b = some (.tup vs) := fun {b vs} e => k b _ (fun y => by rw [y, w.ed] at e; cases e) (fun y => by rw [y, w.es] at e; cases e) e
  cases d with
  | come n ts =>
    obtain ⟨tq, h1, h2⟩ := e
    exact ⟨tq, kt h1, kt h2⟩
  | die n => exact kt e
def spHist : Sp := fun vs H Q _ => ∃ (a : Addr) (pl mo : Nat) (wd : Bool) (N : Nat), vs = [.ref a, .int pl, .int mo, .bl wd] ∧ Pot H a N ∧ N < 200000000 ∧ 2 ≤ pl ∧ pl ≤ 30 ∧ mo ≤ 30 ∧
  ∀ p ds H', Hist ds → ds.length ≤ pl + mo → WoodD wd ds → DeedsAt H' p ds → SameX a H H' → Pot H' a (N + 3000) → Q (.ref p) H'
section
variable {P : Program} {w : World} {K : PySem.W.Frag} {mg : Str → Option Value} {base : Heap}
theorem scHist : FnScope ["pot", "places", "more", "wood", "many", "names", "deeds", "spare", "way", "quiet", "lap", "living"] ["pot", "places", "more", "wood"] (defScope sHist) := ⟨rfl, rfl, rfl, by decide +kernel, rfl, by decide +kernel, by decide +kernel⟩
theorem ok_hist {f fT fO fN fG fL fC fX : Addr} {fd fdT fdO fdN fdG fdL fdC fdX : FuncData} {k : Nat} (F : Fun K "_law_history" "_law_history" sHist f fd) (B : Blt mg)
    (GT : FnOk P w K mg base CX0 k fT fdT ["pot", "upto"] spTake) (gT : mg "_law_take" = some (.ref fT)) (kT : PySem.W.keepIn K (.ref fT) = true) (bT : Binds K fdT ["pot", "upto"] [])
    (GO : FnOk P w K mg base CX0 k fO fdO ["pot", "some"] (spOf2 K)) (gO : mg "_law_of" = some (.ref fO)) (kO : PySem.W.keepIn K (.ref fO) = true) (bO : Binds K fdO ["pot", "some"] [])
    (GN : FnOk P w K mg base CX0 k fN fdN ["pot", "many"] spNames) (gN : mg "_law_names" = some (.ref fN)) (kN : PySem.W.keepIn K (.ref fN) = true) (bN : Binds K fdN ["pot", "many"] [])
    (GG : FnOk P w K mg base CX0 k fG fdG ["pot", "names", "wood"] spGrown) (gG : mg "_law_grown" = some (.ref fG)) (kG : PySem.W.keepIn K (.ref fG) = true) (bG : Binds K fdG ["pot", "names", "wood"] [])
    (GL : FnOk P w K mg base CX0 k fL fdL ["deeds"] spLiving) (gL : mg "_law_living" = some (.ref fL)) (kL : PySem.W.keepIn K (.ref fL) = true) (bL : Binds K fdL ["deeds"] [])
    (GC : FnOk P w K mg base CX0 k fC fdC ["pot", "living", "wood"] spComeT) (gC : mg "_law_come_ties" = some (.ref fC)) (kC : PySem.W.keepIn K (.ref fC) = true) (bC : Binds K fdC ["pot", "living", "wood"] [])
    (GX : FnOk P w K mg base CX0 k fX fdX ["pot", "deeds", "living", "way"] spNextD) (gX : mg "_law_next_dead" = some (.ref fX)) (kX : PySem.W.keepIn K (.ref fX) = true) (bX : Binds K fdX ["pot", "deeds", "living", "way"] []) :
    FnOk P w K mg base CX0 (k + 1) f fd ["pot", "places", "more", "wood"] spHist := by
  refine F.ok scHist (fun vs H Q E h => ?_) (fun cdv A outer s H vs Q E hr h => ?_)
  · obtain ⟨a, pl, mo, wd, N, rfl, _⟩ := h
    rfl
  · obtain ⟨a, pl, mo, wd, N, rfl, hP, hN, hp2, hpl, hmo, q⟩ := h
    have hu := hu_of hr
    have hu64 := hr.units
    refine ⟨_, pss_cons (ps_set (i := 4) scHist.nd rfl (.inl rfl) (pe_op op_add pe_int (pe_call GT hr (by rfl) gT kT bT .nil pass0 (pa_cons (pv 0) (pa_cons (pe_op op_sub (pv 1) pe_int) pa_nil)))))
      (pss_cons (ps_set (i := 5) scHist.nd rfl (.inl rfl) (pe_call GN hr (by rfl) gN kN bN .nil pass0 (pa_cons (pv 0) (pa_cons (pe_op op_add (pv 4) (pv 2)) pa_nil))))
      (pss_cons (ps_par3 (i := 6) (j := 7) (l := 8) rfl scHist.nd rfl rfl rfl (by decide) (by decide) (by decide) rfl rfl rfl (pa_cons (pe_call GG hr (by rfl) gG kG bG .nil pass0 (pa_cons (pv 0) (pa_cons (pe_slice sl_list (pv 5) po_none (po_some (pv 4))) (pa_cons (pv 3) pa_nil))))
          (pa_cons (pe_slice sl_list (pv 5) (po_some (pv 4)) po_none) (pa_cons (pe_call GT hr (by rfl) gT kT bT .nil pass0 (pa_cons (pv 0) (pa_cons pe_int pa_nil))) pa_nil))) rfl)
      (pss_cons (ps_set (i := 9) scHist.nd rfl (.inl rfl) (pe_call GO hr (by rfl) gO kO bO .nil pass0 (pa_cons (pv 0) (pa_cons (pe_lst (pa_cons pe_int (pa_cons pe_int (pa_cons pe_int pa_nil)))) pa_nil))))
      (pss_cons (ps_for PassesOwn.never rfl (pi_range1 (by rfl) B.range (pa_cons (pe_call GT hr (by rfl) gT kT bT .nil pass0 (pa_cons (pv 0) (pa_cons (pe_op op_add (pv 2) pe_int) pa_nil))) pa_nil)) (pg_name (i := 10) scHist.nd rfl (.inl rfl))
        (pss_cons (ps_set (i := 11) scHist.nd rfl (.inl rfl) (pe_call GL hr (by rfl) gL kL bL .nil pass0 (pa_cons (pv 6) pa_nil)))
        (pss_one (ps_if (PW.pt (pw_or (pt_cmpR (op_eqD hu64) (pv 11) (pe_lst pa_nil) (nomark _)) (pw_or1 (pt_cmpR op_eq (pe_call GT hr (by rfl) gT kT bT .nil pass0 (pa_cons (pv 0) (pa_cons (pv 9) pa_nil))) pe_int (nomark _)))))
          (pss_one (ps_expr (pe_bm PySem.F.plainAttrs_list PySem.F.slot_list_append PySem.F.type_list_append mt_append (pv 6) (pa_cons (pe_tup (pa_cons pe_str (pa_cons (pe_bm0 PySem.F.plainAttrs_list PySem.F.slot_list_pop PySem.F.type_list_pop mt_pop (pv 7)) (pa_cons (pe_call GC hr (by rfl) gC kC bC .nil pass0 (pa_cons (pv 0) (pa_cons (pv 11) (pa_cons (pv 3) pa_nil)))) pa_nil)))) pa_nil))))
          (pss_cons (ps_set (i := 8) scHist.nd rfl (.inl rfl) (pe_ifExp (pt_cmpR op_eq (pe_call GT hr (by rfl) gT kT bT .nil pass0 (pa_cons (pv 0) (pa_cons pe_int pa_nil))) pe_int (nomark _)) (pe_call GT hr (by rfl) gT kT bT .nil pass0 (pa_cons (pv 0) (pa_cons pe_int pa_nil))) (pv 8)))
          (pss_one (ps_expr (pe_bm PySem.F.plainAttrs_list PySem.F.slot_list_append PySem.F.type_list_append mt_append (pv 6) (pa_cons (pe_tup (pa_cons pe_str (pa_cons (pe_call GX hr (by rfl) gX kX bX .nil pass0 (pa_cons (pv 0) (pa_cons (pv 6) (pa_cons (pv 11) (pa_cons (pv 8) pa_nil))))) pa_nil))) pa_nil)))))))))
      (pss_one (ps_ret (pv 6))))))), ?_⟩
    refine rs_set ?_
    refine ⟨.ref a, rfl, _, rfl, _, _, rfl, rfl, a, _, N, rfl, hP, by omega, by omega, by omega, fun r H1 r0 r1 s1 hp1 => ⟨_, _, rfl, rfl, ?_⟩⟩
    obtain ⟨r, rfl⟩ : ∃ n : Nat, r = (n : Int) := ⟨r.toNat, by omega⟩
    have hr1 : r + 2 ≤ pl := by omega
    have ew : (fun i j : Int => V.int (i + j)) 2 (r : Nat) = V.int ((2 + r : Nat) : Int) := congrArg V.int (by show (2 : Int) + (r : Nat) = ((2 + r : Nat) : Int); omega)
    rw [ew]
    refine rs_set ?_
    refine ⟨.ref a, rfl, _, rfl, _, rfl, _, _, rfl, rfl, a, 2 + r + mo, N + 1, ?_, hp1, by omega, by omega, fun nl names H2 hnl hnn hnN s2 npn en hp2' => ?_⟩
    · exact congrArg (fun z => [V.ref a, V.int z]) (show ((2 + r : Nat) : Int) + (mo : Nat) = ((2 + r + mo : Nat) : Int) by omega)
    have nnl := pot_ne_strs hp2' en
    refine rs_par3 ?_
    refine ⟨.ref a, rfl, .ref nl, rfl, _, rfl, _, rfl, nl, _, rfl, sql_of en, fun l1 n1 => ?_⟩
    rw [cut_to, ← List.map_take]
    have t1 := same_upd (o := .lst ((names.take (2 + r)).map V.str)) n1
    have hp3 := hp2'.same t1
    refine ⟨.bl wd, rfl, a, l1, names.take (2 + r), wd, _, rfl, hp3, by omega, upd_same, hnn.sublist (List.take_sublist ..), fun z hz => hnN z (List.mem_of_mem_take hz), by rw [List.length_take]; omega, fun dl ds H3 hist hdl hcame hliv hwood hdeeds ndl dla s3 hp4 => ?_⟩
    have en3 := s3 _ _ (Ne.symm nnl) (t1 _ _ en)
    refine ⟨.ref nl, rfl, _, rfl, _, rfl, nl, _, rfl, sql_of en3, fun sp nsp => ?_⟩
    rw [cut_from, ← List.map_drop]
    have t3 := same_upd (o := .lst ((names.drop (2 + r)).map V.str)) nsp
    have hp5 := hp4.same t3
    obtain ⟨qs, ed, dd⟩ := hdeeds
    have hnt : (names.take (2 + r)).length = 2 + r := by rw [List.length_take]; omega
    rw [hnt] at hp5 hdl
    have sxA : SameX a H (upd H2 l1 (.lst ((names.take (2 + r)).map V.str))) := (s1.trans s2).trans (.of t1)
    have sxB := sxA.trans s3
    have hdl0 : ∀ b o, b ≠ a → H b = some o → b ≠ dl := fun b o hb e z => by
      have := sxA _ _ hb e
      rw [z, ndl] at this
      cases this
    have hsp0 : ∀ b o, b ≠ a → H b = some o → b ≠ sp := fun b o hb e z => by
      have := sxB _ _ hb e
      rw [z, nsp] at this
      cases this
    have spa : sp ≠ a := fun z => hp4.some (z ▸ nsp)
    have dlsp : dl ≠ sp := ne_of_none ed nsp
    have w0 : HistI a dl sp wd H (N + 1400) pl mo 0 ds qs (names.drop (2 + r)) (upd H3 sp (.lst ((names.drop (2 + r)).map V.str))) :=
      ⟨sxB.trans (.of t3), hp5.mono (by omega), t3 _ _ ed, paired_mono (fun q d e => e.keep t3) dd, upd_same, hist, hwood, by rw [hcame, List.take_append_drop]; exact hnn, fun z hz => hnN z (List.mem_of_mem_drop hz), by omega, by rw [List.length_drop]; omega, by rw [List.length_drop]; omega⟩
    refine ⟨.ref a, rfl, a, 7, _, rfl, hp5, by omega, by decide, by decide, fun wy H5 wy0 wy1 s5 hp6 => ⟨_, _, _, rfl, ?_⟩⟩
    obtain ⟨wy, rfl⟩ : ∃ n : Nat, wy = (n : Int) := ⟨wy.toNat, by omega⟩
    have w5 := w0.step (M' := N + 1400) s5 (hp6.mono (by omega))
    clear hp6 hp5 hp4 hp3 hp2' hp1 w0 s5 s3 s2 s1 t1 t3 ed dd en en3 npn n1 sxA sxB hnt hwood hist hcame hliv hdl ndl nsp
    refine rs_set ?_
    refine ⟨.ref a, rfl, by show 3 ≤ sizeLine; decide, fun lq nlq => .inl ⟨a, lq, [.int 3, .int 6, .int 100], N + 1400, rfl, w5.pot.same (same_upd nlq), by omega, sql_of upd_same, fun e => w5.pot.some (e ▸ nlq), by decide, by decide, fun ix v H6 hv s6 hp6 => ?_⟩⟩
    obtain ⟨qt, rfl, hq1, hq2⟩ : ∃ m : Nat, v = .int m ∧ 0 < m ∧ m ≤ 100 := by
      have := List.mem_of_getElem? hv
      simp only [List.mem_cons, List.not_mem_nil, or_false] at this
      rcases this with rfl | rfl | rfl
      · exact ⟨3, rfl, by decide, by decide⟩
      · exact ⟨6, rfl, by decide, by decide⟩
      · exact ⟨100, rfl, by decide, by decide⟩
    have w6 := w5.step ((SameX.of (same_upd (o := .lst [.int 3, .int 6, .int 100]) nlq)).trans s6) hp6
    clear w5 nlq s6 hp6
    refine rs_rngE 0 (fun n H' => n ≤ mo ∧ HistI a dl sp wd H (N + 1402) pl mo 0 ds qs (names.drop (2 + r)) H') (fun n i σ' H' => n ≤ mo ∧ ∃ (wy : Nat) (o10 o11 : Option V) (ds : List Deed) (qs : List Addr) (ss : List Str), wy < 7 ∧ σ' = [some (.ref a), some (.int (pl : Nat)), some (.int (mo : Nat)), some (.bl wd), some (.int ((2 + r : Nat) : Int)), some (.ref nl), some (.ref dl), some (.ref sp), some (.int (wy : Nat)), some (.int (qt : Nat)), o10, o11] ∧ HistI a dl sp wd H (N + 1402 + 20 * i) pl mo i ds qs ss H')
      (fun R hR => ?_) (fun n H' ⟨h1, h2⟩ => ⟨h1, wy, _, _, ds, qs, _, by omega, rfl, h2⟩) ?_ ?_
    · exact ⟨.ref a, rfl, _, rfl, _, _, rfl, rfl, a, _, _, rfl, w6.pot, by omega, by omega, by omega, fun n H7 n0 n1 s7 hp7 => ⟨_, rfl, by omega, by omega, hR _ H7 ⟨by omega, w6.step s7 hp7⟩⟩⟩
    · rintro n i σ' H' hi ⟨hn, wy, o10, o11, ds, qs, ss, hwy, rfl, w⟩
      have hdl : ds.length ≤ 60 := by have := w.len; omega
      have hll := w.hist.liv_len
      have lvL : (sortS (liv ds)).length = (liv ds).length := (sortS_perm _).length_eq
      have lvM : ∀ {z : Str}, z ∈ sortS (liv ds) ↔ z ∈ liv ds := (sortS_perm _).mem_iff
      have lvN : ∀ z ∈ sortS (liv ds), Nm z := fun z hz => w.hist.nm z (w.hist.liv_came z (lvM.mp hz))
      have hql : qs.length ≤ 60 := by rw [Paired.length w.dd]; exact hdl
      refine r_gname ?_
      refine rs_set ?_
      refine ⟨.ref dl, rfl, dl, ds, rfl, ⟨qs, w.ed, w.dd⟩, w.hist, by omega, fun lv H2 s2 nlv elv => ?_⟩
      have lsp : lv ≠ sp := fun z => by rw [z, w.es] at nlv; cases nlv
      have ldl : lv ≠ dl := fun z => by rw [z, w.ed] at nlv; cases nlv
      have w2 := w.step (.of s2) (w.pot.same s2)
      have nla := pot_ne_strs w2.pot elv
      refine if_two (fun H3 => SameX a H2 H3 ∧ Pot H3 a (N + 1402 + 20 * i + 1)) (fun H3 => SameX a H2 H3 ∧ Pot H3 a (N + 1402 + 20 * i + 1) ∧ 0 < (liv ds).length) (fun Q1 qt' qf => ?_) (fun H3 ⟨s3, hp3⟩ => ?_) (fun H3 ⟨s3, hp3, hpos⟩ => ?_)
      · refine ⟨.ref lv, rfl, Nat.zero_le _, fun l0 n0 => ⟨.list ((sortS (liv ds)).map PyData.str), .list [], .lst (sql_of ((same_upd n0) _ _ elv)) (strs_dp _), .lst (sql_of upd_same) .nil, strs_lay lvN (fun x hx => hx), by decide +kernel, _, rfl, ?_⟩⟩
        rw [eqv_strs_nil]
        have s0 := same_upd (o := .lst []) n0
        have hp0 := w2.pot.same s0
        refine ite2 (fun c0 => qt' _ ⟨.of s0, hp0.mono (by omega)⟩) (fun c0 => ?_)
        refine ⟨.ref a, rfl, _, rfl, a, qt, _, rfl, hp0, by omega, by omega, by omega, fun rr H4 r0 r1 s4 hp4 => ⟨rfl, _, rfl, ?_⟩⟩
        cases hb : decide (V.int rr = V.int 0) with
        | true => exact qt' _ ⟨(SameX.of s0).trans s4, hp4⟩
        | false => exact qf _ ⟨(SameX.of s0).trans s4, hp4, by rw [← lvL]; exact List.length_pos_iff.mpr (fun e => c0 (decide_eq_true e))⟩
      · have w3 := w2.step s3 hp3
        have elv3 := s3 _ _ (Ne.symm nla) elv
        have hfew := w3.few
        obtain ⟨ss', z, rfl⟩ : ∃ ss' z, ss = ss' ++ [z] := by
          rcases List.eq_nil_or_concat ss with e | ⟨l, x, e⟩
          · rw [e] at hfew
            exact absurd hfew (by show ¬ (mo ≤ 0 + i); omega)
          · exact ⟨l, x, by rw [e, List.concat_eq_append]⟩
        have hnod := w3.nod
        have hsl := w3.sl
        rw [List.length_append] at hfew hsl
        have h1' : ([z] : List Str).length = 1 := rfl
        rw [h1'] at hfew hsl
        have hzN : Nm z := w3.nm z (List.mem_append_right _ List.mem_cons_self)
        have hz1 : z ∉ cameD ds := fun m => (List.nodup_append.mp hnod).2.2 z m z (List.mem_append_right _ List.mem_cons_self) rfl
        have hz2 : z ∉ ss' := fun m => (List.nodup_append.mp (List.nodup_append.mp hnod).2.1).2.2 z m z List.mem_cons_self rfl
        have hnod2 : (cameD ds ++ ss').Nodup := by
          rw [← List.append_assoc] at hnod
          exact (List.nodup_append.mp hnod).1
        have epop : ((ss' ++ [z]).map V.str).dropLast = ss'.map V.str := by rw [List.map_append]; exact List.dropLast_concat
        refine ⟨.ref dl, rfl, .inl ⟨rfl, _, sql_of w3.ed⟩, .ref sp, rfl, .inl ⟨rfl, _, sql_of w3.es⟩, sp, (ss' ++ [z]).map V.str, .str z, rfl, rfl, w3.es, by simp, ?_⟩
        rw [epop]
        have k4 : ∀ b o, b ≠ dl → b ≠ sp → H3 b = some o → (upd H3 sp (.lst (ss'.map V.str))) b = some o := fun b o _ hb e => by rw [upd_ne hb]; exact e
        have w4 : HistI a dl sp wd H (N + 1402 + 20 * i + 1) pl mo (i + 1) ds qs ss' (upd H3 sp (.lst (ss'.map V.str))) := by
          refine ⟨fun b o hb e => by rw [upd_ne (hsp0 b o hb e)]; exact w3.sx b o hb e, ?_, by rw [upd_ne dlsp]; exact w3.ed, paired_mono (w3.kd k4) w3.dd, upd_same, w3.hist, w3.wood, hnod2, fun y hy => w3.nm y (List.mem_append_left _ hy), by have := w3.len; omega, by omega, by omega⟩
          obtain ⟨xx, yy, zz, e, hh⟩ := w3.pot.ex
          exact ⟨xx, yy, zz, by rw [upd_ne (Ne.symm spa)]; exact e, hh⟩
        have elv4 : (upd H3 sp (.lst (ss'.map V.str))) lv = some (.lst ((sortS (liv ds)).map V.str)) := by rw [upd_ne lsp]; exact elv3
        generalize (upd H3 sp (.lst (ss'.map V.str))) = H4 at w4 elv4 ⊢
        refine ⟨.ref a, rfl, .ref lv, rfl, .bl wd, rfl, a, lv, sortS (liv ds), wd, _, rfl, w4.pot, by omega, elv4, (sortS_perm _).nodup_iff.mpr w.hist.liv_nodup, lvN, by omega, fun tq ts H5 hts hta htw etq s5 hp5 => ⟨by show 3 ≤ sizeLine; decide, fun p np => ?_⟩⟩
        have s6 := same_upd (o := .tup [.str (Str.ofString "come"), .str z, .ref tq]) np
        have w6 := w4.step (s5.trans (.of s6)) (hp5.same s6)
        have etq6 := s6 _ _ etq
        have ep6 : (upd H5 p (.tup [.str (Str.ofString "come"), .str z, .ref tq])) p = some (.tup [.str sCome, .str z, .ref tq]) := upd_same
        generalize (upd H5 p (.tup [.str (Str.ofString "come"), .str z, .ref tq])) = H6 at w6 etq6 ep6 ⊢
        have k7 : ∀ b o, b ≠ dl → b ≠ sp → H6 b = some o → (upd H6 dl (.lst (qs.map V.ref ++ [.ref p]))) b = some o := fun b o hb _ e => by rw [upd_ne hb]; exact e
        refine ⟨dl, _, _, rfl, rfl, w6.ed, smallM (by rw [List.length_map]; omega), hn, wy, _, _, ds ++ [.come z ts], qs ++ [p], ss', hwy, rfl, ?_⟩
        refine ⟨fun b o hb e => by rw [upd_ne (hdl0 b o hb e)]; exact w6.sx b o hb e, ?_, by rw [upd_same, List.map_append]; rfl, paired_snoc (w6.kd k7 p (.come z ts) ⟨tq, ep6, etq6⟩) (paired_mono (w6.kd k7) w6.dd), by rw [upd_ne (Ne.symm dlsp)]; exact w6.es, .come w6.hist hzN hz1 hta (fun t ht => lvM.mp (hts t ht)), ?_, ?_, w6.nm, by rw [List.length_append]; have := w.len; show ds.length + 1 ≤ _; omega, w6.few, w6.sl⟩
        · obtain ⟨xx, yy, zz, e, hh⟩ := w6.pot.ex
          exact ⟨xx, yy, zz, by rw [upd_ne (Ne.symm dla)]; exact e, by omega⟩
        · intro hw d hd
          rcases List.mem_append.mp hd with hd | hd
          · exact w6.wood hw d hd
          · rw [List.mem_singleton.mp hd]; exact htw hw
        · rw [came_snoc]
          show ((cameD ds ++ [z]) ++ ss').Nodup
          rw [List.append_assoc, List.nodup_append]
          refine ⟨(List.nodup_append.mp hnod2).1, List.nodup_cons.mpr ⟨hz2, (List.nodup_append.mp hnod2).2.1⟩, fun x hx y hy e => ?_⟩
          rcases List.mem_cons.mp hy with hy | hy
          · exact hz1 (by rw [← hy, ← e]; exact hx)
          · exact (List.nodup_append.mp hnod2).2.2 x hx y hy e
      · have w3 := w2.step s3 hp3
        have elv3 := s3 _ _ (Ne.symm nla) elv
        refine rs_setP (fun v H4 => ∃ wy' : Nat, v = .int (wy' : Nat) ∧ wy' < 7 ∧ SameX a H3 H4 ∧ Pot H4 a (N + 1402 + 20 * i + 3)) (fun Q1 q1 => ?_) (fun v H4 ⟨wy', ev, hwy', s4, hp4⟩ => ?_)
        · refine ⟨.ref a, rfl, a, 10, _, rfl, w3.pot, by omega, by decide, by decide, fun rr H4 r0 r1 s4 hp4 => ⟨rfl, _, rfl, ite2 (fun c => ?_) (fun c => ?_)⟩⟩
          · refine ⟨.ref a, rfl, a, 7, _, rfl, hp4, by omega, by decide, by decide, fun wy2 H5 y0 y1 s5 hp5 => q1 _ _ ⟨wy2.toNat, congrArg V.int (by omega), by omega, s4.trans s5, hp5⟩⟩
          · exact ⟨_, rfl, q1 _ _ ⟨wy, rfl, hwy, s4, hp4.mono (by omega)⟩⟩
        subst ev
        have w4 := w3.step s4 hp4
        have elv4 := s4 _ _ (Ne.symm nla) elv3
        refine ⟨.ref dl, rfl, .inl ⟨rfl, _, sql_of w4.ed⟩, .ref a, rfl, .ref dl, rfl, .ref lv, rfl, _, rfl, a, dl, lv, ds, wy', _, rfl, w4.pot, by omega, ⟨qs, w4.ed, w4.dd⟩, w4.hist, by omega, elv4, hpos, hwy', fun z H5 hz s5 hp5 => ⟨by show 2 ≤ sizeLine; decide, fun p np => ?_⟩⟩
        have s6 := same_upd (o := .tup [.str (Str.ofString "die"), .str z]) np
        have w6 := w4.step (s5.trans (.of s6)) (hp5.same s6)
        have ep6 : (upd H5 p (.tup [.str (Str.ofString "die"), .str z])) p = some (.tup [.str sDie, .str z]) := upd_same
        generalize (upd H5 p (.tup [.str (Str.ofString "die"), .str z])) = H6 at w6 ep6 ⊢
        have k7 : ∀ b o, b ≠ dl → b ≠ sp → H6 b = some o → (upd H6 dl (.lst (qs.map V.ref ++ [.ref p]))) b = some o := fun b o hb _ e => by rw [upd_ne hb]; exact e
        refine ⟨dl, _, _, rfl, rfl, w6.ed, smallM (by rw [List.length_map]; omega), hn, wy', _, _, ds ++ [.die z], qs ++ [p], ss, hwy', rfl, ?_⟩
        refine ⟨fun b o hb e => by rw [upd_ne (hdl0 b o hb e)]; exact w6.sx b o hb e, ?_, by rw [upd_same, List.map_append]; rfl, paired_snoc (w6.kd k7 p (.die z) ep6) (paired_mono (w6.kd k7) w6.dd), by rw [upd_ne (Ne.symm dlsp)]; exact w6.es, .die w6.hist hz, ?_, ?_, w6.nm, by rw [List.length_append]; have := w.len; show ds.length + 1 ≤ _; omega, Nat.le_trans w6.few (by omega), w6.sl⟩
        · obtain ⟨xx, yy, zz, e, hh⟩ := w6.pot.ex
          exact ⟨xx, yy, zz, by rw [upd_ne (Ne.symm dla)]; exact e, by omega⟩
        · intro hw d hd
          rcases List.mem_append.mp hd with hd | hd
          · exact w6.wood hw d hd
          · rw [List.mem_singleton.mp hd]; exact Nat.zero_le _
        · rw [came_snoc]
          show ((cameD ds ++ []) ++ ss).Nodup
          rw [List.append_nil]
          exact w6.nod
    · rintro n σ' H' ⟨hn, wy, o10, o11, ds, qs, ss, hwy, rfl, w⟩
      exact ⟨.ref dl, rfl, q dl ds H' w.hist (Nat.le_trans w.len (by omega)) w.wood ⟨qs, w.ed, w.dd⟩ w.sx (w.pot.mono (by omega))⟩
end
end Hw

set_option Elab.async false
set_option linter.all false
set_option maxRecDepth 100000
set_option maxHeartbeats 4000000
namespace Hw
open PySem L2 PyProof.Rows
abbrev sIsName : Stmt := topS 3
theorem low_alpha : ∀ c, 97 ≤ c → c ≤ 122 → Unicode.isAlpha c = true ∧ Unicode.isLower c = true ∧ Unicode.isUpper c = false ∧ Unicode.isTitle c = false ∧ c < 128 := by
  have h : ((List.range 26).all fun i => Unicode.isAlpha (97 + i) && Unicode.isLower (97 + i) && !Unicode.isUpper (97 + i) && !Unicode.isTitle (97 + i)) = true := by decide +kernel
  intro c h1 h2
  have := List.all_eq_true.mp h (c - 97) (List.mem_range.mpr (by omega))
  rw [show 97 + (c - 97) = c by omega] at this
  simp only [Bool.and_eq_true, Bool.not_eq_true'] at this
  obtain ⟨⟨⟨a, b⟩, d⟩, e⟩ := this
  exact ⟨a, b, d, e, by omega⟩
theorem nm_ascii {z : Str} (h : Nm z) : Txt.isascii z = true := by
  unfold Txt.isascii
  refine Array.all_eq_true_iff_forall_mem.mpr fun c hc => ?_
  have := h.2.2 c (cps_mem hc)
  exact decide_eq_true (by omega)
theorem nm_ne {z : Str} (h : Nm z) : ∃ c, c ∈ z.cps := by
  have h1 := h.1
  exact ⟨z.cps[0], Array.getElem_mem _⟩
theorem nm_alpha {z : Str} (h : Nm z) : Txt.isalpha z = true := by
  unfold Txt.isalpha
  rw [Bool.and_eq_true]
  refine ⟨?_, Array.all_eq_true_iff_forall_mem.mpr fun c hc => (low_alpha c (h.2.2 c (cps_mem hc)).1 (h.2.2 c (cps_mem hc)).2).1⟩
  have h1 := h.1
  exact decide_eq_true (by omega)
theorem nm_lower {z : Str} (h : Nm z) : Txt.islower z = true := by
  unfold Txt.islower
  obtain ⟨c, hc⟩ := nm_ne h
  have l := fun c (hc : c ∈ z.cps) => low_alpha c (h.2.2 c (cps_mem hc)).1 (h.2.2 c (cps_mem hc)).2
  rw [Bool.and_eq_true]
  refine ⟨Array.any_eq_true.mpr ?_, ?_⟩
  · obtain ⟨i, hi, rfl⟩ := Array.mem_iff_getElem.mp hc
    exact ⟨i, hi, (l _ hc).2.1⟩
  · rw [Bool.not_eq_true', Array.any_eq_false]
    intro i hi
    obtain ⟨_, _, a, b, _⟩ := l _ (Array.getElem_mem hi)
    rw [a, b]; decide
def spIsName : Sp := fun vs H Q _ => ∃ z, vs = [.str z] ∧ Nm z ∧ Q (.bl true) H
structure Blt3 (mg : Str → Option Value) : Prop where
  isi : mg "isinstance" = none
  str : mg "str" = none
  tuple : mg "tuple" = none
  all : mg "all" = none
  zip : mg "zip" = none
  enum : mg "enumerate" = none
  dict : mg "dict" = none
  sorted : mg "sorted" = none
  lnm : ∃ t, mg "LONGEST_NAME" = some (.int 8 t)
  mst : ∃ t, mg "MOST_PLACES" = some (.int 200 t)
abbrev sAsc : Stmt := topS 5
def spAsc (K : PySem.W.Frag) : Sp := fun vs H Q _ => ∃ (p : Addr) (zs : List Str), vs = [.ref p] ∧ SqT K H p (zs.map V.str) ∧ Asc zs ∧ zs.length ≤ 1000 ∧ ∀ H', Same H H' → Q (.bl true) H'
theorem cut1 {xs : List V} : cutV xs (some 1) none = xs.drop 1 := by
  unfold cutV
  rw [show HT.sIx xs.length 0 (some 1) = min 1 xs.length from HT.sIx_nat _ 0 1, HT.sIx_none]
  have e : xs.drop (min 1 xs.length) = xs.drop 1 := by
    by_cases h : 1 ≤ xs.length
    · rw [Nat.min_eq_left h]
    · rw [Nat.min_eq_right (by omega), List.drop_of_length_le (Nat.le_refl _), List.drop_of_length_le (by omega)]
  rw [e]
  refine List.take_of_length_le ?_
  rw [List.length_drop]; omega
theorem sqT_same {K : PySem.W.Frag} {H H' : Hp} {p : Addr} {xs : List V} (h : SqT K H p xs) (s : Same H H') : SqT K H' p xs := by
  rcases h with (h | ⟨o, h⟩) | h
  · exact .inl (.inl (s _ _ h))
  · exact .inl (.inr ⟨o, s _ _ h⟩)
  · exact .inr h
theorem sqL_same {K : PySem.W.Frag} {H H' : Hp} {p : Addr} {xs : List V} (h : SqL K H p xs) (s : Same H H') : SqL K H' p xs := by
  rcases h with (h | ⟨o, h⟩) | h
  · exact .inl (.inl (s _ _ h))
  · exact .inl (.inr ⟨o, s _ _ h⟩)
  · exact .inr h
theorem asc_at {zs : List Str} (ha : Asc zs) {i : Nat} {x y : Str} (h1 : zs[i]? = some x) (h2 : zs[i + 1]? = some y) : x.cps.toList < y.cps.toList := by
  obtain ⟨p1, rfl⟩ := List.getElem?_eq_some_iff.mp h1
  obtain ⟨p2, rfl⟩ := List.getElem?_eq_some_iff.mp h2
  exact of_decide_eq_true (List.pairwise_iff_getElem.mp ha i (i + 1) p1 p2 (by omega))
theorem all_rep (n : Nat) : (List.replicate n true).all id = true := by
  rw [List.all_eq_true]
  intro x hx
  rw [(List.mem_replicate.mp hx).2]; rfl
theorem nm_no {z : Str} (h : Nm z) {c : Nat} (hc : c < 97) : c ∉ z.cps.toList := fun hm => by have := (h.2.2 c hm).1; omega
theorem split_bl {ps : List Str} (hne : ps ≠ []) (h : ∀ p ∈ ps, 32 ∉ p.cps.toList) : Txt.split (Txt.join sBl ps) sBl = ps := TL.split_join (s := 32) (S := []) rfl (by decide +kernel) hne h
theorem split_nl {ps : List Str} (hne : ps ≠ []) (h : ∀ p ∈ ps, 10 ∉ p.cps.toList) : Txt.split (Txt.join sNl ps) sNl = ps := TL.split_join (s := 10) (S := []) rfl (by decide +kernel) hne h
theorem nil_or_snoc {α : Type} (l : List α) : l = [] ∨ ∃ m x, l = m ++ [x] := by
  rcases List.eq_nil_or_concat l with h | ⟨m, x, h⟩
  · exact .inl h
  · exact .inr ⟨m, x, by rw [h, List.concat_eq_append]⟩
theorem rs_enumK {K : PySem.W.Frag} {wi : TI} {g : TG} {tb u : TS} {D : Ends} {σ : L2.St} {H : Hp} (k : Int) (xs : List V) (P0 : Addr → Hp → Prop) (Pv : Addr → Nat → L2.St → Hp → Prop) (hw : ∀ R : It → Hp → Prop, (∀ a H1, P0 a H1 → R (IteK K a k) H1) → wi σ H R) (h0 : ∀ a H1, P0 a H1 → Pv a 0 σ H1)
    (hG : ∀ a j σ H, j ≤ xs.length → Pv a j σ H → SqL K H a xs) (turn : ∀ a j x σ H T, j < xs.length → Pv a j σ H → H T = none → xs[j]? = some x → g (.ref T) σ (upd H T (.tup [.int (k + (j : Nat)), x])) fun σ2 H2 => tb { D with nx := Pv a (j + 1), ct := Pv a (j + 1), bk := u D } σ2 H2)
    (done : ∀ a σ H, Pv a xs.length σ H → u D σ H) : tSeq (tFor wi g tb) u D σ H :=
  hw _ fun a H1 p => for_it (D := { D with nx := u D }) walk_enumK (Pv a) (h0 a H1 p) (hG a) (fun j x σ H H' hj hp ⟨T, xa, ya, ex, nT, eH, e1, e2⟩ => by
    subst ex eH
    obtain rfl : V.int (k + (j : Nat)) = xa := Option.some.inj e1
    exact turn a j ya σ H T hj hp nT e2) (done a)
section
variable {P : Program} {w : World} {K : PySem.W.Frag} {mg : Str → Option Value} {base : Heap}
theorem scIsName : FnScope ["value"] ["value"] (defScope sIsName) := ⟨rfl, rfl, rfl, by decide +kernel, rfl, by decide +kernel, by decide +kernel⟩
theorem ok_isname {f : Addr} {fd : FuncData} {k : Nat} (F : Fun K "is_name" "is_name" sIsName f fd) (B : Blt mg) (B3 : Blt3 mg) : FnOk P w K mg base CX0 (k + 1) f fd ["value"] spIsName := by
  refine F.ok scIsName (fun vs H Q E h => ?_) (fun cdv A outer s H vs Q E hr h => ?_)
  · obtain ⟨z, rfl, _⟩ := h
    rfl
  · obtain ⟨z, rfl, hz, q⟩ := h
    obtain ⟨t, gL⟩ := B3.lnm
    refine ⟨_, pss_one (ps_ret (pe_and (pe_callB call_isi (by rfl) B3.isi PyProof.Rows.boot_isinstance (pa_cons (pv 0) (pa_cons (pe_bltn (v := .ty "str") (by rfl) B3.str (by decide +kernel) rfl) pa_nil)))
      (pe_and (pe_cmpR op_le (pe_callB call_len_str (by rfl) B.len PySem.boot_len (pa_cons (pv 0) pa_nil)) (pe_glob (v := .int 8) (by rfl) gL ⟨_, rfl⟩) (nomark _))
      (pe_and (pe_m0 PySem.F.slot_str_isascii PySem.F.type_str_isascii mt_isascii (pv 0)) (pe_and (pe_m0 PySem.F.slot_str_isalpha PySem.F.type_str_isalpha mt_isalpha (pv 0)) (pe_one (pe_m0 PySem.F.slot_str_islower PySem.F.type_str_islower mt_islower (pv 0)))))))), ?_⟩
    refine ⟨.str z, rfl, .str z, .ty "str", .type "str", .type "str", true, rfl, .ty _, .base (.str z), kit_ty (by decide +kernel), true, rfl, ?_⟩
    refine ⟨.str z, rfl, z, rfl, Nat.le_of_lt (small1000 (by have := hz.2.1; omega)), _, _, rfl, rfl, true, congrArg V.bl (decide_eq_true (by have := hz.2.1; omega)), ?_⟩
    refine ⟨.str z, rfl, ⟨_, rfl⟩, z, rfl, rfl, trivial, true, congrArg V.bl (nm_ascii hz), ?_⟩
    refine ⟨.str z, rfl, ⟨_, rfl⟩, z, rfl, rfl, trivial, true, congrArg V.bl (nm_alpha hz), ?_⟩
    refine ⟨.str z, rfl, ⟨_, rfl⟩, z, rfl, rfl, trivial, ?_⟩
    rw [nm_lower hz]
    exact q
theorem scAsc : FnScope ["values", "one", "other"] ["values"] (defScope sAsc) := ⟨rfl, rfl, rfl, by decide +kernel, rfl, by decide +kernel, by decide +kernel⟩
theorem ok_asc {f : Addr} {fd : FuncData} {k : Nat} (F : Fun K "ascends" "ascends" sAsc f fd) (B3 : Blt3 mg) : FnOk P w K mg base CX0 (k + 1) f fd ["values"] (spAsc K) := by
  refine F.ok scAsc (fun vs H Q E h => ?_) (fun cdv A outer s H vs Q E hr h => ?_)
  · obtain ⟨p, zs, rfl, _⟩ := h
    rfl
  · obtain ⟨p, zs, rfl, hp, ha, hl, q⟩ := h
    refine ⟨_, pss_one (ps_ret (pe_callB (cr_all rfl) (by rfl) B3.all PyProof.Rows.boot_all (pa_cons (pe_lc (own := [("one", 1), ("other", 2)]) (g := gTup _ 2 (gCons (gName 1) (gCons (gName 2) gNil))) (tt := tYes) rfl scAsc.nd
        (RZ.pi_zipA (by rfl) B3.zip (pa_cons (pv 0) (pa_cons (pe_slice sl_tupA (pv 0) (po_some pe_int) po_none) pa_nil))) (blkOk_by (N := ["values", "one", "other"]) (sc := defScope sAsc) (by decide +kernel))
        (fun _ _ _ _ _ => pg_tup rfl (pgs_cons (pg_name (i := 1) scAsc.nd rfl (Or.inl rfl)) (pgs_cons (pg_name (i := 2) scAsc.nd rfl (Or.inl rfl)) pgs_nil))) (fun _ _ _ _ _ => pts_nil) (fun _ _ _ _ _ => pe_cmpR op_lt_str (pv 1) (pv 2) (nomark _))) pa_nil))), ?_⟩
    refine ⟨.ref p, rfl, .ref p, rfl, 1, rfl, p, zs.map V.str, rfl, hp, fun hw => ?_, fun hw b nb => ?_⟩
    · obtain ⟨H1, eH1⟩ : ∃ H1, H1 = H := ⟨H, rfl⟩
      have s1 : Same H H1 := by rw [eH1]; exact Same.refl H
      have hb : SqT K H1 p ((zs.map V.str).drop 1) := by
        have e0 : (zs.map V.str).length = 0 := by
          have := hw.1
          rw [show HT.sIx (zs.map V.str).length 0 (some 1) = min 1 (zs.map V.str).length from HT.sIx_nat _ 0 1] at this
          omega
        rw [List.length_eq_zero_iff.mp e0] at hp ⊢
        rw [eH1]; exact hp
      rw [← eH1]
      refine ⟨p, _, zs.map V.str, (zs.map V.str).drop 1, rfl, .inr ⟨sqT_same hp s1, hb, fun D hD => lc_it (walk_zipT rfl) (fun i H' => Same H H' ∧ Same H1 H' ∧ H' D = some (.lst ((List.replicate i true).map V.bl))) ⟨s1.trans (same_upd hD), same_upd hD, upd_same⟩ (fun i H' _ h => ⟨sqT_same hp h.1, sqT_same hb h.2.1⟩) ?_ ?_⟩⟩
      · rintro i x H' H'' hi ⟨sx, sx1, eD⟩ ⟨T, x1, x2, rfl, nT, rfl, g1, g2⟩
        obtain ⟨z1, h1, rfl⟩ := map_get g1
        have g2 : ((zs.map V.str).drop 1)[i]? = some x2 := g2
        rw [List.getElem?_drop] at g2
        obtain ⟨z2, h2, rfl⟩ := map_get g2
        refine ⟨T, [.str z1, .str z2], rfl, sqt_of upd_same, rfl, _, [.str z2], rfl, _, [], rfl, rfl, rfl, r_yes ?_⟩
        have hlt : z1.cps.toList < z2.cps.toList := asc_at ha h1 (by rw [Nat.add_comm] at h2; exact h2)
        have hi1 := (List.getElem?_eq_some_iff.mp h1).1
        refine ⟨.str z1, rfl, .str z2, rfl, z1, z2, rfl, rfl, _, (same_upd nT) _ _ eD, small1000 (by rw [List.length_map, List.length_replicate]; omega), ?_, ?_, ?_⟩
        · intro b o e
          rw [upd_ne (ne_of_none (s1 _ _ e) hD)]
          exact (same_upd nT) _ _ (sx _ _ e)
        · intro b o e
          rw [upd_ne (ne_of_none e hD)]
          exact (same_upd nT) _ _ (sx1 _ _ e)
        · rw [upd_same, decide_eq_true hlt, List.replicate_succ', List.map_append]; rfl
      · rintro H' ⟨sx, sx1, eD⟩
        refine ⟨D, _, rfl, sql_of eD, ?_⟩
        rw [all_rep]
        exact q H' sx
    · have s1 : Same H (upd H b (.tup (cutV (zs.map V.str) (some 1) none))) := same_upd nb
      have hb : SqT K (upd H b (.tup (cutV (zs.map V.str) (some 1) none))) b ((zs.map V.str).drop 1) := by
        rw [cut1] 
        exact sqt_of upd_same
      generalize (upd H b (.tup (cutV (zs.map V.str) (some 1) none))) = H1 at s1 hb ⊢
      refine ⟨p, _, zs.map V.str, (zs.map V.str).drop 1, rfl, .inr ⟨sqT_same hp s1, hb, fun D hD => lc_it (walk_zipT rfl) (fun i H' => Same H H' ∧ Same H1 H' ∧ H' D = some (.lst ((List.replicate i true).map V.bl))) ⟨s1.trans (same_upd hD), same_upd hD, upd_same⟩ (fun i H' _ h => ⟨sqT_same hp h.1, sqT_same hb h.2.1⟩) ?_ ?_⟩⟩
      · rintro i x H' H'' hi ⟨sx, sx1, eD⟩ ⟨T, x1, x2, rfl, nT, rfl, g1, g2⟩
        obtain ⟨z1, h1, rfl⟩ := map_get g1
        have g2 : ((zs.map V.str).drop 1)[i]? = some x2 := g2
        rw [List.getElem?_drop] at g2
        obtain ⟨z2, h2, rfl⟩ := map_get g2
        refine ⟨T, [.str z1, .str z2], rfl, sqt_of upd_same, rfl, _, [.str z2], rfl, _, [], rfl, rfl, rfl, r_yes ?_⟩
        have hlt : z1.cps.toList < z2.cps.toList := asc_at ha h1 (by rw [Nat.add_comm] at h2; exact h2)
        have hi1 := (List.getElem?_eq_some_iff.mp h1).1
        refine ⟨.str z1, rfl, .str z2, rfl, z1, z2, rfl, rfl, _, (same_upd nT) _ _ eD, small1000 (by rw [List.length_map, List.length_replicate]; omega), ?_, ?_, ?_⟩
        · intro b o e
          rw [upd_ne (ne_of_none (s1 _ _ e) hD)]
          exact (same_upd nT) _ _ (sx _ _ e)
        · intro b o e
          rw [upd_ne (ne_of_none e hD)]
          exact (same_upd nT) _ _ (sx1 _ _ e)
        · rw [upd_same, decide_eq_true hlt, List.replicate_succ', List.map_append]; rfl
      · rintro H' ⟨sx, sx1, eD⟩
        refine ⟨D, _, rfl, sql_of eD, ?_⟩
        rw [all_rep]
        exact q H' sx
end
end Hw

set_option Elab.async false
set_option linter.all false
set_option maxRecDepth 100000
set_option maxHeartbeats 4000000
namespace Hw
open PySem L2 PyProof.Rows
abbrev sIsLiv : Stmt := topS 23
abbrev sAreLiv : Stmt := topS 22
abbrev sCanCome : Stmt := topS 21
abbrev sCanStand : Stmt := topS 20
/-- for each place that ever came whether it lives, as it lies -/
def LivesAt (H : Hp) (d : Addr) (ds : List Deed) : Prop := H d = some (.dK (encF' (cameD ds) fun z => V.bl (decide (z ∈ liv ds))))
theorem LivesAt.get {H : Hp} {d : Addr} {ds : List Deed} (h : LivesAt H d ds) (z : Str) : DGet H d (.str z) (if z ∈ cameD ds then some (V.bl (decide (z ∈ liv ds))) else none) := by
  have := DGet.k (k := Sum.inr z) h
  rw [encF_val] at this
  exact this
def spIsLiv : Sp := fun vs H Q _ => ∃ (z : Str) (d : Addr) (ds : List Deed), vs = [.str z, .ref d] ∧ LivesAt H d ds ∧ Hist ds ∧ Q (.bl (decide (z ∈ liv ds))) H
def spAreLiv : Sp := fun vs H Q _ => ∃ (p d : Addr) (ts : List Str) (ds : List Deed), vs = [.ref p, .ref d] ∧ H p = some (.tup (ts.map V.str)) ∧ LivesAt H d ds ∧ Hist ds ∧ (∀ t ∈ ts, t ∈ liv ds) ∧ Asc ts ∧ ts.length ≤ 1000 ∧ ∀ H', Same H H' → Q (.bl true) H'
section
variable {P : Program} {w : World} {K : PySem.W.Frag} {mg : Str → Option Value} {base : Heap}
theorem scIsLiv : FnScope ["value", "lives"] ["value", "lives"] (defScope sIsLiv) := ⟨rfl, rfl, rfl, by decide +kernel, rfl, by decide +kernel, by decide +kernel⟩
theorem ok_isliv {f : Addr} {fd : FuncData} {k : Nat} (F : Fun K "is_living" "is_living" sIsLiv f fd) (B3 : Blt3 mg) : FnOk P w K mg base CX0 (k + 1) f fd ["value", "lives"] spIsLiv := by
  refine F.ok scIsLiv (fun vs H Q E h => ?_) (fun cdv A outer s H vs Q E hr h => ?_)
  · obtain ⟨z, d, ds, rfl, _⟩ := h
    rfl
  · obtain ⟨z, d, ds, rfl, hd, hH, q⟩ := h
    have hu := hu_of hr
    refine ⟨_, pss_one (ps_ret (pe_and (pe_callB call_isi (by rfl) B3.isi PyProof.Rows.boot_isinstance (pa_cons (pv 0) (pa_cons (pe_bltn (v := .ty "str") (by rfl) B3.str (by decide +kernel) rfl) pa_nil)))
      (pe_one (pe_dget2 hu (pv 1) (pv 0) pe_bl ⟨rfl, by rfl, by rfl, by rfl⟩)))), ?_⟩
    refine ⟨.str z, rfl, .str z, .ty "str", .type "str", .type "str", true, rfl, .ty _, .base (.str z), kit_ty (by decide +kernel), true, rfl, ?_⟩
    refine ⟨.ref d, rfl, d, rfl, .inl ⟨_, .inl hd⟩, .str z, rfl, _, hd.get z, ?_⟩
    by_cases h : z ∈ cameD ds
    · rw [if_pos h]; exact q
    · rw [if_neg h]
      rw [decide_eq_false (fun m => h (hH.liv_came z m))] at q
      exact q
theorem scAreLiv : FnScope ["value", "lives", "name"] ["value", "lives"] (defScope sAreLiv) := ⟨rfl, rfl, rfl, by decide +kernel, rfl, by decide +kernel, by decide +kernel⟩
theorem ok_areliv {f fI fA : Addr} {fd fdI fdA : FuncData} {k : Nat} (F : Fun K "are_living" "are_living" sAreLiv f fd) (B3 : Blt3 mg)
    (GI : FnOk P w K mg base CX0 k fI fdI ["value", "lives"] spIsLiv) (gI : mg "is_living" = some (.ref fI)) (kI : PySem.W.keepIn K (.ref fI) = true) (bI : Binds K fdI ["value", "lives"] [])
    (GA : FnOk P w K mg base CX0 k fA fdA ["values"] (spAsc K)) (gA : mg "ascends" = some (.ref fA)) (kA : PySem.W.keepIn K (.ref fA) = true) (bA : Binds K fdA ["values"] []) :
    FnOk P w K mg base CX0 (k + 1) f fd ["value", "lives"] spAreLiv := by
  refine F.ok scAreLiv (fun vs H Q E h => ?_) (fun cdv A outer s H vs Q E hr h => ?_)
  · obtain ⟨p, d, ts, ds, rfl, _⟩ := h
    rfl
  · obtain ⟨p, d, ts, ds, rfl, ep, hd, hH, hts, hta, hl, q⟩ := h
    have hu := hu_of hr
    refine ⟨_, pss_one (ps_ret (pe_and (pe_callB call_isi (by rfl) B3.isi PyProof.Rows.boot_isinstance (pa_cons (pv 0) (pa_cons (pe_bltn (v := .ty "tuple") (by rfl) B3.tuple (by decide +kernel) rfl) pa_nil)))
      (pe_and (pe_callB (cr_all rfl) (by rfl) B3.all PyProof.Rows.boot_all (pa_cons (pe_lc (own := [("name", 2)]) (g := gName 2) (tt := tYes) (te := tCall spIsLiv [] E0 (tCons (tVar 2) (tCons (tVar 1) tNil))) rfl scAreLiv.nd (pi_tup (pv 0))
          (blkOk_by (N := ["value", "lives", "name"]) (sc := defScope sAreLiv) (by decide +kernel)) (fun _ _ _ _ _ => pg_name (i := 2) scAreLiv.nd rfl (Or.inl rfl)) (fun _ _ _ _ _ => pts_nil)
          (fun _ _ _ _ _ => pe_call GI hr (by rfl) gI kI bI .nil pass0 (pa_cons (pv 2) (pa_cons (pv 1) pa_nil)))) pa_nil))
      (pe_one (pe_call GA hr (by rfl) gA kA bA .nil pass0 (pa_cons (pv 0) pa_nil)))))), ?_⟩
    refine ⟨.ref p, rfl, .ref p, .ty "tuple", .type "tuple", .type "tuple", true, rfl, .ty _, .base (.tup ep), kit_ty (by decide +kernel), true, rfl, ?_⟩
    refine ⟨.ref p, rfl, p, rfl, ⟨_, sqt_of ep⟩, fun D nD => lc_tup (xs := ts.map V.str) (fun i H' => Same H H' ∧ H' D = some (.lst ((List.replicate i true).map V.bl))) ⟨same_upd nD, upd_same⟩ (fun i H' _ h => sqt_of (h.1 _ _ ep)) ?_ ?_⟩
    · rintro i x H' hx ⟨sx, eD⟩
      obtain ⟨z, hz, rfl⟩ := map_get hx
      have hi := (List.getElem?_eq_some_iff.mp hz).1
      refine ⟨rfl, r_yes ?_⟩
      refine ⟨.str z, rfl, .ref d, rfl, z, d, ds, rfl, sx _ _ hd, hH, ?_⟩
      rw [decide_eq_true (hts z (List.mem_of_getElem? hz))]
      refine ⟨_, eD, smallM (by rw [List.length_map, List.length_replicate]; omega), fun b o e => ?_, ?_⟩
      · rw [upd_ne (ne_of_none e nD)]; exact sx _ _ e
      · rw [upd_same, List.replicate_succ', List.map_append]; rfl
    · rintro H' ⟨sx, eD⟩
      refine ⟨D, _, rfl, sql_of eD, ?_⟩
      rw [all_rep]
      refine ⟨true, rfl, ?_⟩
      exact ⟨.ref p, rfl, p, ts, rfl, sqt_of (sx _ _ ep), hta, hl, fun H2 s2 => q H2 (sx.trans s2)⟩
end
end Hw

set_option Elab.async false
set_option linter.all false
set_option maxRecDepth 100000
set_option maxHeartbeats 4000000
namespace Hw
open PySem L2 PyProof.Rows
theorem snoc_get {α : Type} (l : List α) (x : α) : (l ++ [x])[l.length]? = some x := by simp
theorem take_len {α : Type} (l : List α) (x : α) : (l ++ [x]).take l.length = l := by simp
theorem Hist.last_come {ds : List Deed} {n : Str} {ts : List Str} (h : Hist (ds ++ [.come n ts])) : Nm n ∧ n ∉ cameD ds ∧ Asc ts ∧ ∀ t ∈ ts, t ∈ liv ds := by
  have := h.come_at (snoc_get ds (.come n ts))
  rw [take_len] at this
  exact this
theorem Hist.last_die {ds : List Deed} {n : Str} (h : Hist (ds ++ [.die n])) : n ∈ liv ds := by
  have := h.die_at (snoc_get ds (.die n))
  rw [take_len] at this
  exact this
def spCanCome : Sp := fun vs H Q _ => ∃ (n : Str) (tq d : Addr) (ts : List Str) (ds : List Deed), vs = [.str n, .ref tq, .ref d] ∧ H tq = some (.tup (ts.map V.str)) ∧ LivesAt H d ds ∧ Hist (ds ++ [.come n ts]) ∧ ds.length < 200 ∧ ∀ H', Same H H' → Q (.bl true) H'
def spCanStand : Sp := fun vs H Q _ => ∃ (q d : Addr) (e : Deed) (ds : List Deed) (m : Nat), vs = [.ref q, .ref d, .int m] ∧ DeedAt H q e ∧ LivesAt H d ds ∧ Hist (ds ++ [e]) ∧ ds.length < 200 ∧ m < 400 ∧ ∀ H', Same H H' → Q (.bl true) H'
section
variable {P : Program} {w : World} {K : PySem.W.Frag} {mg : Str → Option Value} {base : Heap}
theorem scCanCome : FnScope ["name", "ties", "lives"] ["name", "ties", "lives"] (defScope sCanCome) := ⟨rfl, rfl, rfl, by decide +kernel, rfl, by decide +kernel, by decide +kernel⟩
theorem ok_cancome {f fN fA : Addr} {fd fdN fdA : FuncData} {k : Nat} (F : Fun K "can_come" "can_come" sCanCome f fd) (B : Blt mg) (B3 : Blt3 mg)
    (GN : FnOk P w K mg base CX0 k fN fdN ["value"] spIsName) (gN : mg "is_name" = some (.ref fN)) (kN : PySem.W.keepIn K (.ref fN) = true) (bN : Binds K fdN ["value"] [])
    (GA : FnOk P w K mg base CX0 k fA fdA ["value", "lives"] spAreLiv) (gA : mg "are_living" = some (.ref fA)) (kA : PySem.W.keepIn K (.ref fA) = true) (bA : Binds K fdA ["value", "lives"] []) :
    FnOk P w K mg base CX0 (k + 1) f fd ["name", "ties", "lives"] spCanCome := by
  refine F.ok scCanCome (fun vs H Q E h => ?_) (fun cdv A outer s H vs Q E hr h => ?_)
  · obtain ⟨n, tq, d, ts, ds, rfl, _⟩ := h
    rfl
  · obtain ⟨n, tq, d, ts, ds, rfl, et, hd, hH, hl, q⟩ := h
    have hu := hu_of hr
    obtain ⟨t, gL⟩ := B3.mst
    refine ⟨_, pss_cons (ps_if (PW.pt (pw_or (pt_not (pt_val (pe_call GN hr (by rfl) gN kN bN .nil pass0 (pa_cons (pv 0) pa_nil)))) (pw_or (pt_cmp (pc_din hu (pv 0) (pv 2))) (pw_or1 (pt_cmpR op_ge (pe_callB call_lenD (by rfl) B.len PySem.boot_len (pa_cons (pv 2) pa_nil)) (pe_glob (v := .int 200) (by rfl) gL ⟨_, rfl⟩) (nomark _)))))) (pss_one (ps_ret pe_bl)) pss_nil)
      (pss_one (ps_ret (pe_call GA hr (by rfl) gA kA bA .nil pass0 (pa_cons (pv 1) (pa_cons (pv 2) pa_nil))))), ?_⟩
    obtain ⟨h1, h2, h3, h4⟩ := hH.last_come
    have h0 := hH.pre
    have hcl := came_len ds
    have hev := (hH.each _ (List.mem_append_right _ List.mem_cons_self)).2.1
    have htl : ts.length ≤ (ds ++ [Deed.come n ts]).length := hev
    rw [List.length_append] at htl
    have h1l : ([Deed.come n ts] : List Deed).length = 1 := rfl
    refine rs_no ?_
    refine ⟨.str n, rfl, n, rfl, h1, true, rfl, ?_⟩
    refine ⟨.str n, rfl, .ref d, rfl, d, _, rfl, hd.get n, false, ?_, ?_⟩
    · rw [if_neg h2]; rfl
    refine ⟨.ref d, rfl, d, _, rfl, hd, _, _, rfl, rfl, false, congrArg V.bl (decide_eq_false (by rw [encF_len]; omega)), ?_⟩
    exact ⟨.ref tq, rfl, .ref d, rfl, tq, d, ts, ds, rfl, et, hd, h0, h4, h3, by omega, q⟩
theorem scCanStand : FnScope ["value", "lives", "many"] ["value", "lives", "many"] (defScope sCanStand) := ⟨rfl, rfl, rfl, by decide +kernel, rfl, by decide +kernel, by decide +kernel⟩
theorem ok_canstand {f fC fI : Addr} {fd fdC fdI : FuncData} {k : Nat} (F : Fun K "can_stand" "can_stand" sCanStand f fd) (B : Blt mg) (B3 : Blt3 mg) (hM : ∃ t, mg "MOST_DEEDS" = some (.int 400 t))
    (GC : FnOk P w K mg base CX0 k fC fdC ["name", "ties", "lives"] spCanCome) (gC : mg "can_come" = some (.ref fC)) (kC : PySem.W.keepIn K (.ref fC) = true) (bC : Binds K fdC ["name", "ties", "lives"] [])
    (GI : FnOk P w K mg base CX0 k fI fdI ["value", "lives"] spIsLiv) (gI : mg "is_living" = some (.ref fI)) (kI : PySem.W.keepIn K (.ref fI) = true) (bI : Binds K fdI ["value", "lives"] []) :
    FnOk P w K mg base CX0 (k + 1) f fd ["value", "lives", "many"] spCanStand := by
  refine F.ok scCanStand (fun vs H Q E h => ?_) (fun cdv A outer s H vs Q E hr h => ?_)
  · obtain ⟨q, d, e, ds, m, rfl, _⟩ := h
    rfl
  · obtain ⟨qd, d, e, ds, m, rfl, ed, hd, hH, hl, hm, q⟩ := h
    have hu := hu_of hr
    obtain ⟨t, gL⟩ := hM
    refine ⟨_, pss_cons (ps_if (PW.pt (pw_or (pt_cmpR op_ge (pv 2) (pe_glob (v := .int 400) (by rfl) gL ⟨_, rfl⟩) (nomark _)) (pw_or1 (pt_not (pt_val (pe_callB call_isi (by rfl) B3.isi PyProof.Rows.boot_isinstance (pa_cons (pv 0) (pa_cons (pe_bltn (v := .ty "tuple") (by rfl) B3.tuple (by decide +kernel) rfl) pa_nil)))))))) (pss_one (ps_ret pe_bl)) pss_nil)
      (pss_cons (ps_if (PW.pt (pw_and (pt_cmpR op_eq (pe_callB call_len_seq (by rfl) B.len PySem.boot_len (pa_cons (pv 0) pa_nil)) pe_int (nomark _)) (pw_and1 (pt_cmpR op_eq (pe_ix ix_tup (pv 0) pe_int (fun _ _ => rfl)) pe_str (nomark _))))) (pss_one (ps_ret (pe_call GC hr (by rfl) gC kC bC .nil pass0 (pa_cons (pe_ix ix_tup (pv 0) pe_int (fun _ _ => rfl)) (pa_cons (pe_ix ix_tup (pv 0) pe_int (fun _ _ => rfl)) (pa_cons (pv 1) pa_nil)))))) pss_nil)
      (pss_cons (ps_if (PW.pt (pw_and (pt_cmpR op_eq (pe_callB call_len_seq (by rfl) B.len PySem.boot_len (pa_cons (pv 0) pa_nil)) pe_int (nomark _)) (pw_and1 (pt_cmpR op_eq (pe_ix ix_tup (pv 0) pe_int (fun _ _ => rfl)) pe_str (nomark _))))) (pss_one (ps_ret (pe_call GI hr (by rfl) gI kI bI .nil pass0 (pa_cons (pe_ix ix_tup (pv 0) pe_int (fun _ _ => rfl)) (pa_cons (pv 1) pa_nil))))) pss_nil)
      (pss_one (ps_ret pe_bl)))), ?_⟩
    have h0 := hH.pre
    cases e with
    | come n ts =>
      obtain ⟨tq, e1, e2⟩ := ed
      refine rs_no ?_
      refine ⟨_, rfl, _, _, rfl, rfl, false, congrArg V.bl (decide_eq_false (by omega)), ?_⟩
      refine ⟨.ref qd, rfl, .ref qd, .ty "tuple", .type "tuple", .type "tuple", true, rfl, .ty _, .base (.tup e1), kit_ty (by decide +kernel), true, rfl, ?_⟩
      refine rs_no ?_
      refine ⟨.ref qd, rfl, qd, _, rfl, .inr (sqt_of e1), rfl, true, congrArg V.bl (decide_eq_true rfl), ?_⟩
      refine ⟨.ref qd, rfl, qd, _, 0, _, rfl, rfl, sqt_of e1, rfl, rfl, true, congrArg V.bl (word_come (.come n ts)), ?_⟩
      exact ⟨.ref qd, rfl, qd, _, 1, _, rfl, rfl, sqt_of e1, rfl, .ref qd, rfl, qd, _, 2, _, rfl, rfl, sqt_of e1, rfl, .ref d, rfl, n, tq, d, ts, ds, rfl, e2, hd, hH, hl, q⟩
    | die n =>
      have e1 : H qd = some (.tup [.str sDie, .str n]) := ed
      refine rs_no ?_
      refine ⟨_, rfl, _, _, rfl, rfl, false, congrArg V.bl (decide_eq_false (by omega)), ?_⟩
      refine ⟨.ref qd, rfl, .ref qd, .ty "tuple", .type "tuple", .type "tuple", true, rfl, .ty _, .base (.tup e1), kit_ty (by decide +kernel), true, rfl, ?_⟩
      refine rs_no2 (fun _ => False) (fun H' => H' = H) (fun Q1 qt qf => ⟨.ref qd, rfl, qd, _, rfl, .inr (sqt_of e1), rfl, false, congrArg V.bl (decide_eq_false (fun z => absurd (show (2 : Int) = 3 by injection z) (by decide))), qf _ rfl⟩) (fun _ h => h.elim) (fun H' e => ?_)
      subst e
      refine rs_no ?_
      refine ⟨.ref qd, rfl, qd, _, rfl, .inr (sqt_of e1), rfl, true, congrArg V.bl (decide_eq_true rfl), ?_⟩
      refine ⟨.ref qd, rfl, qd, _, 0, _, rfl, rfl, sqt_of e1, rfl, rfl, true, congrArg V.bl (word_die (.die n)), ?_⟩
      refine ⟨.ref qd, rfl, qd, _, 1, _, rfl, rfl, sqt_of e1, rfl, .ref d, rfl, n, d, ds, rfl, hd, h0, ?_⟩
      rw [decide_eq_true hH.last_die]
      exact q _ (Same.refl _)
end
end Hw

set_option Elab.async false
set_option linter.all false
set_option maxRecDepth 100000
set_option maxHeartbeats 4000000
namespace Hw
open PySem L2 PyProof.Rows
abbrev sReadD1 : Stmt := topS 17
/-- what a line of a deed keeps -/
structure FineD (e : Deed) : Prop where
  nm : Nm e.name
  ts : ∀ t ∈ e.ties, Nm t
  few : e.ties.length ≤ 100
theorem FineD.of {ds : List Deed} (h : Hist ds) (hl : ds.length ≤ 100) {e : Deed} (he : e ∈ ds) : FineD e := by
  obtain ⟨a, b, c, _⟩ := h.each e he
  exact ⟨a, c, by omega⟩
theorem word_no (e : Deed) {c : Nat} (hc : c < 97) : c ∉ e.word.cps.toList := by
  have h : ∀ z : Str, (z.cps.toList.all fun x => decide (97 ≤ x)) = true → c ∉ z.cps.toList := fun z h m => by
    have := of_decide_eq_true (List.all_eq_true.mp h c m)
    omega
  cases e with
  | come n ts => exact h sCome (by decide +kernel)
  | die n => exact h sDie (by decide +kernel)
theorem FineD.no {e : Deed} (f : FineD e) {c : Nat} (hc : c < 97) : ∀ p ∈ e.word :: e.name :: e.ties, c ∉ p.cps.toList := fun p hp => by
  rcases List.mem_cons.mp hp with rfl | hp
  · exact word_no e hc
  · rcases List.mem_cons.mp hp with rfl | hp
    · exact nm_no f.nm hc
    · exact nm_no (f.ts p hp) hc
theorem FineD.split {e : Deed} (f : FineD e) : Txt.split (deedLine e) sBl = e.word :: e.name :: e.ties := split_bl (by simp) (f.no (by decide))
theorem FineD.len {e : Deed} (f : FineD e) : (deedLine e).length ≤ 1000 := by
  refine Nat.le_trans (join_len _ _) ?_
  have hw : e.word.length ≤ 8 := by
    cases e with
    | come n ts => exact show sCome.length ≤ 8 by decide +kernel
    | die n => exact show sDie.length ≤ 8 by decide +kernel
  have hs := sum_le (ps := e.word :: e.name :: e.ties) (b := 8) fun p hp => by
    rcases List.mem_cons.mp hp with rfl | hp
    · exact hw
    · rcases List.mem_cons.mp hp with rfl | hp
      · exact f.nm.2.1
      · exact (f.ts p hp).2.1
  have e1 : sBl.length = 1 := by decide +kernel
  have el : (e.word :: e.name :: e.ties).length = e.ties.length + 2 := rfl
  have := f.few
  rw [el] at hs ⊢
  rw [e1]
  omega
def spReadD1 : Sp := fun vs H Q _ => ∃ e : Deed, vs = [.str (deedLine e)] ∧ FineD e ∧ ∀ q H', Same H H' → H q = none → DeedAt H' q e → Q (.ref q) H'
section
variable {P : Program} {w : World} {K : PySem.W.Frag} {mg : Str → Option Value} {base : Heap}
theorem scReadD1 : FnScope ["line", "words"] ["line"] (defScope sReadD1) := ⟨rfl, rfl, rfl, by decide +kernel, rfl, by decide +kernel, by decide +kernel⟩
theorem ok_readd1 {f : Addr} {fd : FuncData} {k : Nat} (F : Fun K "read_deed" "read_deed" sReadD1 f fd) (B : Blt mg) (B3 : Blt3 mg) : FnOk P w K mg base CX0 (k + 1) f fd ["line"] spReadD1 := by
  refine F.ok scReadD1 (fun vs H Q E h => ?_) (fun cdv A outer s H vs Q E hr h => ?_)
  · obtain ⟨e, rfl, _⟩ := h
    rfl
  · obtain ⟨e, rfl, fe, q⟩ := h
    refine ⟨_, pss_cons (ps_set (i := 1) scReadD1.nd rfl (.inl rfl) (pe_split (pv 0) pe_str))
      (pss_cons (ps_if (PW.pt (pw_and (pt_cmpR op_eq (pe_ix ix_list (pv 1) pe_int (fun _ _ => rfl)) pe_str (nomark _)) (pw_and1 (pt_cmpR op_gt (pe_callB call_len_seq (by rfl) B.len PySem.boot_len (pa_cons (pv 1) pa_nil)) pe_int (nomark _)))))
        (pss_one (ps_ret (pe_tup (pa_cons pe_str (pa_cons (pe_ix ix_list (pv 1) pe_int (fun _ _ => rfl)) (pa_cons (pe_callTy call_tuple_of (by rfl) B3.tuple PyProof.Rows.boot_tuple (pa_cons (pe_slice sl_list (pv 1) (po_some pe_int) po_none) pa_nil)) pa_nil)))))) pss_nil)
      (pss_one (ps_ret (pe_callTy call_tuple_of (by rfl) B3.tuple PyProof.Rows.boot_tuple (pa_cons (pv 1) pa_nil))))), ?_⟩
    have hln := fe.len
    refine rs_set ?_
    refine ⟨.str (deedLine e), rfl, ⟨_, rfl⟩, deedLine e, sBl, rfl, rfl, by decide +kernel, Nat.le_of_lt (smallM (by omega)), fun wl nwl => ?_⟩
    rw [fe.split]
    have s1 := same_upd (o := .lst ((e.word :: e.name :: e.ties).map V.str)) nwl
    have ew : (upd H wl (.lst ((e.word :: e.name :: e.ties).map V.str))) wl = some (.lst (.str e.word :: .str e.name :: e.ties.map V.str)) := upd_same
    generalize (upd H wl (.lst ((e.word :: e.name :: e.ties).map V.str))) = H1 at s1 ew ⊢
    cases e with
    | come n ts =>
      have ew : H1 wl = some (.lst (.str sCome :: .str n :: ts.map V.str)) := ew
      refine rs_no ?_
      refine ⟨.ref wl, rfl, wl, _, 0, .str sCome, rfl, rfl, sql_of ew, atI_nat (j := 0) rfl, rfl, true, congrArg V.bl (word_come (.come n ts)), ?_⟩
      refine ⟨.ref wl, rfl, wl, _, rfl, .inl (sql_of ew), _, _, rfl, rfl, true, congrArg V.bl (decide_eq_true (by rw [List.length_cons, List.length_cons]; omega)), ?_⟩
      refine ⟨.ref wl, rfl, wl, _, 1, .str n, rfl, rfl, sql_of ew, atI_nat (j := 1) rfl, .ref wl, rfl, 2, rfl, wl, _, rfl, sql_of ew, fun c nc => ⟨c, _, rfl, .inl ⟨sql_of upd_same, fun tp ntp => ⟨by show 3 ≤ sizeLine; decide, fun p np => ?_⟩⟩⟩⟩
      rw [show cutV (V.str sCome :: V.str n :: ts.map V.str) (some 2) none = ts.map V.str from cut_from _ 2] at ntp np ⊢
      have s2 := ((same_upd (o := .lst (ts.map V.str)) nc).trans (same_upd (o := .tup (ts.map V.str)) ntp)).trans (same_upd (o := .tup [.str (Str.ofString "come"), .str n, .ref tp]) np)
      have hp0 : H p = none := ((s1.trans (same_upd (o := .lst (ts.map V.str)) nc)).trans (same_upd (o := .tup (ts.map V.str)) ntp)).free np
      exact q p _ (s1.trans s2) hp0 ⟨tp, upd_same, (same_upd np) _ _ upd_same⟩
    | die n =>
      have ew : H1 wl = some (.lst [.str sDie, .str n]) := ew
      refine rs_no2 (fun _ => False) (fun H' => H' = H1) (fun Q1 qt qf => ⟨.ref wl, rfl, wl, _, 0, .str sDie, rfl, rfl, sql_of ew, rfl, rfl, false, congrArg V.bl (word_come (.die n)), qf _ rfl⟩) (fun _ h => h.elim) (fun H' e => ?_)
      subst e
      refine r_ret ?_
      refine ⟨.ref wl, rfl, wl, _, rfl, .inl ⟨sql_of ew, fun p np => ?_⟩⟩
      exact q p _ (s1.trans (same_upd np)) (s1.free np) (show DeedAt _ p (.die n) from upd_same)
end
end Hw

set_option Elab.async false
set_option linter.all false
set_option maxRecDepth 100000
set_option maxHeartbeats 4000000
namespace Hw
open PySem L2 PyProof.Rows
abbrev sLivesB : Stmt := topS 18
abbrev sNamesT : Stmt := topS 19
/-! who ever came lives or is dead -/
theorem Hist.dead_came {ds : List Deed} (h : Hist ds) : ∀ z ∈ deadD ds, z ∈ cameD ds := by
  induction h with
  | nil => intro z hz; cases hz
  | come h nm new asc sub ih =>
    intro z hz
    rw [dead_snoc] at hz
    rw [came_snoc]
    rcases List.mem_append.mp hz with hz | hz
    · exact List.mem_append_left _ (ih z hz)
    · cases hz
  | die h lv ih =>
    intro z hz
    rw [dead_snoc] at hz
    rw [came_snoc]
    rcases List.mem_append.mp hz with hz | hz
    · exact List.mem_append_left _ (ih z hz)
    · rw [List.mem_singleton.mp (show z ∈ [_] from hz)]
      exact List.mem_append_left _ (h.liv_came _ lv)
theorem Hist.dead_no {ds : List Deed} (h : Hist ds) : ∀ z ∈ deadD ds, z ∉ liv ds := by
  induction h with
  | nil => intro z hz; cases hz
  | come h nm new asc sub ih =>
    intro z hz m
    rw [dead_snoc] at hz
    rw [liv_snoc] at m
    rcases List.mem_append.mp hz with hz | hz
    · rcases List.mem_append.mp m with m | m
      · exact ih z hz m
      · rw [List.mem_singleton.mp m] at hz
        exact new (h.dead_came _ hz)
    · cases hz
  | @die ds n h lv ih =>
    intro z hz m
    rw [dead_snoc] at hz
    rw [liv_snoc] at m
    obtain ⟨m1, m2⟩ := List.mem_filter.mp (show z ∈ (liv ds).filter fun y => decide (y ≠ n) from m)
    rcases List.mem_append.mp hz with hz | hz
    · exact ih z hz m1
    · exact of_decide_eq_true m2 (List.mem_singleton.mp (show z ∈ [n] from hz))
theorem Hist.came_or {ds : List Deed} (h : Hist ds) : ∀ z ∈ cameD ds, z ∈ liv ds ∨ z ∈ deadD ds := by
  induction h with
  | nil => intro z hz; cases hz
  | come h nm new asc sub ih =>
    intro z hz
    rw [came_snoc] at hz
    rw [liv_snoc, dead_snoc]
    rcases List.mem_append.mp hz with hz | hz
    · rcases ih z hz with m | m
      · exact .inl (List.mem_append_left _ m)
      · exact .inr (List.mem_append_left _ m)
    · exact .inl (List.mem_append_right _ hz)
  | @die ds n h lv ih =>
    intro z hz
    rw [came_snoc] at hz
    rw [liv_snoc, dead_snoc]
    rcases List.mem_append.mp hz with hz | hz
    · by_cases e : z = n
      · exact .inr (List.mem_append_right _ (by rw [e]; exact List.mem_cons_self))
      · rcases ih z hz with m | m
        · exact .inl (List.mem_filter.mpr ⟨m, decide_eq_true e⟩)
        · exact .inr (List.mem_append_left _ m)
    · cases hz
theorem Hist.dead_nodup {ds : List Deed} (h : Hist ds) : (deadD ds).Nodup := by
  induction h with
  | nil => exact List.nodup_nil
  | come h nm new asc sub ih =>
    rw [dead_snoc]
    show (_ ++ []).Nodup
    rw [List.append_nil]; exact ih
  | @die ds n h lv ih =>
    rw [dead_snoc]
    show (deadD ds ++ [n]).Nodup
    rw [List.nodup_append]
    exact ⟨ih, by simp, fun x hx y hy e => h.dead_no x hx (by rw [e, List.mem_singleton.mp hy]; exact lv)⟩
/-- those of all that ever came that live, or that do not -/
theorem Hist.sorted_part {ds : List Deed} (h : Hist ds) (b : Bool) : sortS ((cameD ds).filter fun z => decide (decide (z ∈ liv ds) = b)) = sortS (if b = true then liv ds else deadD ds) := by
  refine sortS_of_perm ((List.perm_ext_iff_of_nodup (h.came_nodup.filter _) ?_).mpr fun z => ?_)
  · cases b
    · exact h.dead_nodup
    · exact h.liv_nodup
  · rw [List.mem_filter, decide_eq_true_iff]
    cases b with
    | true =>
      rw [if_pos rfl, decide_eq_true_iff]
      exact ⟨fun m => m.2, fun m => ⟨h.liv_came z m, m⟩⟩
    | false =>
      rw [if_neg Bool.false_ne_true, decide_eq_false_iff_not]
      exact ⟨fun m => (h.came_or z m.1).resolve_left m.2, fun m => ⟨h.dead_came z m, h.dead_no z m⟩⟩
theorem lives_step {ds : List Deed} {e : Deed} (h : Hist (ds ++ [e])) : putK (encF' (cameD ds) fun z => V.bl (decide (z ∈ liv ds))) (Sum.inr e.name : Key) (.bl e.isCome) = encF' (cameD (ds ++ [e])) fun z => V.bl (decide (z ∈ liv (ds ++ [e]))) := by
  cases e with
  | come n ts =>
    obtain ⟨_, hn, _, _⟩ := h.last_come
    show putK _ (Sum.inr n : Key) (.bl true) = _
    rw [encF_new hn, came_snoc, liv_snoc]
    refine encF_congr fun y _ => ?_
    show (if y = n then V.bl true else V.bl (decide (y ∈ liv ds))) = V.bl (decide (y ∈ liv ds ++ [n]))
    by_cases e : y = n
    · subst e
      rw [if_pos rfl, decide_eq_true (List.mem_append_right _ List.mem_cons_self)]
    · rw [if_neg e]
      congr 1
      rw [decide_eq_decide, List.mem_append, List.mem_singleton]
      simp [e]
  | die n =>
    have hl := h.last_die
    show putK _ (Sum.inr n : Key) (.bl false) = _
    rw [encF_old (h.pre.liv_came n hl), came_snoc, liv_snoc]
    show encF' (cameD ds) _ = encF' (cameD ds ++ []) _
    rw [List.append_nil]
    refine encF_congr fun y _ => ?_
    show (if y = n then V.bl false else V.bl (decide (y ∈ liv ds))) = V.bl (decide (y ∈ (liv ds).filter fun z => decide (z ≠ n)))
    by_cases e : y = n
    · have hno : n ∉ (liv ds).filter fun z => decide (z ≠ n) := fun m => of_decide_eq_true (p := n ≠ n) (List.mem_filter.mp m).2 rfl
      rw [e, if_pos rfl, decide_eq_false hno]
    · rw [if_neg e]
      congr 1
      rw [decide_eq_decide, List.mem_filter, decide_eq_true_iff]
      exact ⟨fun m => ⟨m, e⟩, fun m => m.1⟩
/-- the tuple of deeds as it lies -/
def DeedsT (H : Hp) (p : Addr) (ds : List Deed) : Prop := ∃ qs : List Addr, H p = some (.tup (qs.map V.ref)) ∧ Paired (DeedAt H) qs ds
theorem DeedsT.keep {H H' : Hp} {p : Addr} {ds : List Deed} (h : DeedsT H p ds) (s : Same H H') : DeedsT H' p ds := by
  obtain ⟨qs, h1, h2⟩ := h
  exact ⟨qs, s _ _ h1, paired_mono (fun q d e => e.keep s) h2⟩
theorem LivesAt.keep {H H' : Hp} {d : Addr} {ds : List Deed} (h : LivesAt H d ds) (s : Same H H') : LivesAt H' d ds := s _ _ h
def spLivesB : Sp := fun vs H Q _ => ∃ (p : Addr) (ds : List Deed), vs = [.ref p] ∧ DeedsT H p ds ∧ Hist ds ∧ ds.length ≤ 1000 ∧ ∀ d H', Same H H' → H d = none → LivesAt H' d ds → Q (.ref d) H'
section
variable {P : Program} {w : World} {K : PySem.W.Frag} {mg : Str → Option Value} {base : Heap}
theorem scLivesB : FnScope ["deeds", "lives", "deed"] ["deeds"] (defScope sLivesB) := ⟨rfl, rfl, rfl, by decide +kernel, rfl, by decide +kernel, by decide +kernel⟩
theorem ok_livesb {f : Addr} {fd : FuncData} {k : Nat} (F : Fun K "lives_behind" "lives_behind" sLivesB f fd) : FnOk P w K mg base CX0 (k + 1) f fd ["deeds"] spLivesB := by
  refine F.ok scLivesB (fun vs H Q E h => ?_) (fun cdv A outer s H vs Q E hr h => ?_)
  · obtain ⟨p, ds, rfl, _⟩ := h
    rfl
  · obtain ⟨p, ds, rfl, ⟨qs, e1, e2⟩, hH, hl, q⟩ := h
    have hu := hu_of hr
    refine ⟨_, pss_cons (ps_set (i := 1) scLivesB.nd rfl (.inl rfl) pe_dnewK)
      (pss_cons (ps_for PassesOwn.never rfl (pi_tup (pv 0)) (pg_name (i := 2) scLivesB.nd rfl (.inl rfl))
        (pss_one (ps_dput hu (pv 1) (pe_ix ix_tup (pv 2) pe_int (fun _ _ => rfl)) (pe_cmpR op_eq (pe_ix ix_tup (pv 2) pe_int (fun _ _ => rfl)) pe_str (nomark _)) rfl)))
      (pss_one (ps_ret (pv 1)))), ?_⟩
    refine rs_set ?_
    intro d nd
    refine rs_tup p (qs.map V.ref) (fun Q1 q1 => ⟨_, rfl, q1⟩) (fun i σ' H' => ∃ o2, σ' = [some (.ref p), some (.ref d), o2] ∧ Same H H' ∧ LivesAt H' d (ds.take i)) ⟨_, rfl, same_upd nd, upd_same⟩ (fun i σ' H' _ ⟨_, _, sx, _⟩ => sqt_of (sx _ _ e1)) ?_ ?_
    · rintro i x σ' H' hx ⟨o2, rfl, sx, eD⟩
      obtain ⟨qd, hq, rfl⟩ := map_get hx
      obtain ⟨e, he, ed⟩ := paired_get e2 hq
      obtain ⟨more, em⟩ := (ed.keep sx).two (K := K)
      have hcl := hH.came_take i
      have et : ds.take (i + 1) = ds.take i ++ [e] := take_snoc he
      have hH1 : Hist (ds.take i ++ [e]) := by rw [← et]; exact hH.take (i + 1)
      refine r_gname ?_
      refine ⟨.ref qd, rfl, qd, _, 0, .str e.word, rfl, rfl, sqt_of em, atI_nat (j := 0) rfl, rfl, .ref d, rfl, .ref qd, rfl, qd, _, 1, .str e.name, rfl, rfl, sqt_of em, atI_nat (j := 1) rfl, d, _, rfl, DPut.k (k := Sum.inr e.name) eD (smallM (by rw [encF_len]; omega)), _, rfl, fun b o eb => ?_, ?_⟩
      · rw [upd_ne (ne_of_none eb nd)]; exact sx _ _ eb
      · show (upd _ d _) d = _
        rw [upd_same, et, word_come e, lives_step hH1]
    · rintro σ' H' ⟨o2, rfl, sx, eD⟩
      rw [List.length_map, Paired.length e2, List.take_length] at eD
      exact ⟨.ref d, rfl, q d H' sx nd eD⟩
end
end Hw

set_option Elab.async false
set_option linter.all false
set_option maxRecDepth 100000
set_option maxHeartbeats 4000000
namespace Hw
open PySem L2 PyProof.Rows
def spNamesT : Sp := fun vs H Q _ => ∃ (b : Bool) (d : Addr) (ds : List Deed), vs = [.bl b, .ref d] ∧ LivesAt H d ds ∧ Hist ds ∧ ds.length ≤ 1000 ∧ ∀ p H', Same H H' → H' p = some (.tup ((sortS (if b = true then liv ds else deadD ds)).map V.str)) → Q (.ref p) H'
section
variable {P : Program} {w : World} {K : PySem.W.Frag} {mg : Str → Option Value} {base : Heap}
theorem scNamesT : FnScope ["live", "lives", "name"] ["live", "lives"] (defScope sNamesT) := ⟨rfl, rfl, rfl, by decide +kernel, rfl, by decide +kernel, by decide +kernel⟩
theorem ok_namest {f : Addr} {fd : FuncData} {k : Nat} (F : Fun K "names_that" "names_that" sNamesT f fd) (bs : mg "sorted" = none) (bt : mg "tuple" = none) : FnOk P w K mg base CX0 (k + 1) f fd ["live", "lives"] spNamesT := by
  refine F.ok scNamesT (fun vs H Q E h => ?_) (fun cdv A outer s H vs Q E hr h => ?_)
  · obtain ⟨b, d, ds, rfl, _⟩ := h
    rfl
  · obtain ⟨b, d, ds, rfl, hd, hH, hl, q⟩ := h
    have hu := hu_of hr
    have hu64 := hr.units
    refine ⟨_, pss_one (ps_ret (pe_callTy call_tuple_of (by rfl) bt PyProof.Rows.boot_tuple (pa_cons (pe_callB (cr_sortT hu64) (by rfl) bs (by decide +kernel) (pa_cons (pe_lock (pe_lc (own := [("name", 2)]) (g := gName 2) (tt := tTest (tOp rEq (tDGet (tVar 1) (tVar 2)) (tVar 0))) rfl scNamesT.nd (pi_keys (pv 1))
        (blkOk_by (N := ["live", "lives", "name"]) (sc := defScope sNamesT) (by decide +kernel)) (fun _ _ _ _ _ => pg_name (i := 2) scNamesT.nd rfl (Or.inl rfl))
        (fun _ _ _ _ _ => pts_one (pt_cmpR op_eq (pe_dget hu (pv 1) (pv 2) (fun _ _ => rfl)) (pv 0) (nomark _))) (fun _ _ _ _ _ => pv 2))) pa_nil)) pa_nil))), ?_⟩
    have hcl := came_len ds
    have hne : ∀ b' o, H b' = some o → b' ≠ d → True := fun _ _ _ _ => trivial
    refine ⟨d, .dK (encF' (cameD ds) fun z => V.bl (decide (z ∈ liv ds))), hd, trivial, fun od => ?_⟩
    refine ⟨.ref d, rfl, d, od, rfl, .inl ⟨_, upd_same, fun D nD => ?_⟩⟩
    have hDd : D ≠ d := fun e => by rw [e, upd_same] at nD; cases nD
    have nD0 : H D = none := by rw [upd_ne hDd] at nD; exact nD
    refine lc_it walk_keys (fun i H' => (∀ b' o, b' ≠ d → H b' = some o → H' b' = some o) ∧ H' d = some (.frz od (.dK (encF' (cameD ds) fun z => V.bl (decide (z ∈ liv ds))))) ∧ H' D = some (.lst ((((cameD ds).take i).filter fun z => decide (decide (z ∈ liv ds) = b)).map V.str)))
      ⟨fun b' o hb e => by rw [upd_ne (ne_of_none e nD0), upd_ne hb]; exact e, by rw [upd_ne (Ne.symm hDd), upd_same], upd_same⟩ (fun i H' _ h => h.2.1) ?_ ?_
    · rintro i x H' H'' hi ⟨sx, ed, eD⟩ ⟨rfl, ky, v, hk, rfl⟩
      obtain ⟨z, hz, ez⟩ : ∃ z, (cameD ds)[i]? = some z ∧ (ky, v) = ((Sum.inr z : Key), V.bl (decide (z ∈ liv ds))) := by
        unfold encF' at hk
        rw [List.getElem?_map] at hk
        cases e : (cameD ds)[i]? with
        | none => rw [e] at hk; cases hk
        | some z => rw [e] at hk; exact ⟨z, rfl, (Option.some.inj hk).symm⟩
      cases ez
      have hi2 := (List.getElem?_eq_some_iff.mp hz).1
      have hzm := List.mem_of_getElem? hz
      have g0 : DGet H'' d (.str z) (some (V.bl (decide (z ∈ liv ds)))) := by
        have : DGet H'' d (.str z) (valV (encF' (cameD ds) fun z => V.bl (decide (z ∈ liv ds))) (Sum.inr z)) := .inl ⟨_, Sum.inr z, .inr ⟨_, ed⟩, rfl, rfl⟩
        rw [encF_val, if_pos hzm] at this
        exact this
      have hfl : (((cameD ds).take i).filter fun z => decide (decide (z ∈ liv ds) = b)).length ≤ 1000 := Nat.le_trans (List.length_filter_le _ _) (by rw [List.length_take]; omega)
      refine ⟨rfl, .ref d, rfl, .str z, rfl, d, _, rfl, g0, .bl b, rfl, rfl, _, rfl, ?_⟩
      have eb : decide (V.bl (decide (z ∈ liv ds)) = V.bl b) = decide (decide (z ∈ liv ds) = b) := by
        rw [decide_eq_decide]
        exact ⟨fun e => by injection e, fun e => by rw [e]⟩
      rw [eb]
      have ft : ((cameD ds).take (i + 1)).filter (fun z => decide (decide (z ∈ liv ds) = b)) = ((cameD ds).take i).filter (fun z => decide (decide (z ∈ liv ds) = b)) ++ if decide (decide (z ∈ liv ds) = b) = true then [z] else [] := filter_snoc hz
      by_cases hb : decide (z ∈ liv ds) = b
      · rw [decide_eq_true hb]
        show if true = true then _ else _
        rw [if_pos rfl]
        refine ⟨.str z, rfl, _, eD, smallM (by rw [List.length_map]; omega), fun b' o hb' e => ?_, ?_, ?_⟩
        · rw [upd_ne (ne_of_none e nD0)]; exact sx _ _ hb' e
        · rw [upd_ne (Ne.symm hDd)]; exact ed
        · rw [upd_same, ft, decide_eq_true hb, if_pos rfl, List.map_append]; rfl
      · rw [decide_eq_false hb]
        show if false = true then _ else _
        rw [if_neg Bool.false_ne_true]
        refine ⟨sx, ed, ?_⟩
        rw [eD, ft, decide_eq_false hb, if_neg Bool.false_ne_true, List.append_nil]
    · rintro H' ⟨sx, ed, eD⟩
      have en : (encF' (cameD ds) fun z => V.bl (decide (z ∈ liv ds))).length = (cameD ds).length := encF_len _ _
      rw [en, List.take_length] at eD
      have hfl : ((cameD ds).filter fun z => decide (decide (z ∈ liv ds) = b)).length ≤ 1000 := Nat.le_trans (List.length_filter_le _ _) (by omega)
      have s1 : Same H (upd H' d (.dK (encF' (cameD ds) fun z => V.bl (decide (z ∈ liv ds))))) := fun b' o e => by
        by_cases hb : b' = d
        · subst hb
          rw [hd] at e
          rw [upd_same]; exact e
        · rw [upd_ne hb]; exact sx _ _ hb e
      refine ⟨ed, D, (cameD ds).filter fun z => decide (decide (z ∈ liv ds) = b), rfl, sql_of (by rw [upd_ne hDd]; exact eD), Nat.le_of_lt (smallM (by omega)), fun p2 n2 => ⟨p2, _, rfl, .inl ⟨sql_of upd_same, fun p3 n3 => ?_⟩⟩⟩
      have s2 := (s1.trans (same_upd (o := .lst ((sortS ((cameD ds).filter fun z => decide (decide (z ∈ liv ds) = b))).map V.str)) n2)).trans (same_upd (o := .tup ((sortS ((cameD ds).filter fun z => decide (decide (z ∈ liv ds) = b))).map V.str)) n3)
      refine q p3 _ s2 ?_
      rw [upd_same, hH.sorted_part b]
end
end Hw

set_option Elab.async false
set_option linter.all false
set_option maxRecDepth 100000
set_option maxHeartbeats 4000000
namespace Hw
open PySem L2 PyProof.Rows
abbrev sReadDs : Stmt := topS 16
theorem join_mem {y : Str} {c : Nat} : ∀ {ps : List Str}, c ∈ (Txt.join y ps).cps.toList → c ∈ y.cps.toList ∨ ∃ p ∈ ps, c ∈ p.cps.toList
  | [], h => by rw [TL.join_eq] at h; cases h
  | [p], h => by
    rw [TL.join_eq] at h
    exact .inr ⟨p, List.mem_cons_self, h⟩
  | p :: q :: r, h => by
    rw [TL.join_eq] at h
    have e : Str.join y (p :: q :: r) = p ++ y ++ Str.join y (q :: r) := rfl
    rw [e, app_cps, app_cps] at h
    rcases List.mem_append.mp h with h | h
    · rcases List.mem_append.mp h with h | h
      · exact .inr ⟨p, List.mem_cons_self, h⟩
      · exact .inl h
    · rw [← TL.join_eq] at h
      rcases join_mem h with h | ⟨z, hz, h⟩
      · exact .inl h
      · exact .inr ⟨z, List.mem_cons_of_mem _ hz, h⟩
theorem FineD.nonl {e : Deed} (f : FineD e) : 10 ∉ (deedLine e).cps.toList := fun h => by
  rcases join_mem h with h | ⟨p, hp, h⟩
  · exact absurd h (by decide +kernel)
  · exact f.no (by decide) p hp h
theorem hist_split {ds : List Deed} (h : Hist ds) (hl : ds.length ≤ 100) (hne : ds ≠ []) : Txt.split (histText ds) sNl = ds.map deedLine := by
  refine split_nl (by simpa using hne) fun p hp => ?_
  obtain ⟨e, he, rfl⟩ := List.mem_map.mp hp
  exact (FineD.of h hl he).nonl
theorem hist_ne {ds : List Deed} (h : Hist ds) (hl : ds.length ≤ 100) (hne : ds ≠ []) : (histText ds).length ≠ 0 := by
  intro e0
  have e1 : histText ds = Str.ofString "" := by
    have : (histText ds).cps = #[] := Array.eq_empty_of_size_eq_zero e0
    generalize histText ds = z at this ⊢
    cases z with
    | mk c => cases this; rfl
  have hs := hist_split h hl hne
  rw [e1, show Txt.split (Str.ofString "") sNl = [Str.ofString ""] by decide +kernel] at hs
  cases ds with
  | nil => exact hne rfl
  | cons d ds' =>
    have e2 : deedLine d = Str.ofString "" := (List.cons.inj hs).1.symm
    have := (FineD.of h hl List.mem_cons_self).split
    rw [e2, show Txt.split (Str.ofString "") sBl = [Str.ofString ""] by decide +kernel] at this
    have := congrArg List.length this
    simp at this
def spReadDs : Sp := fun vs H Q _ => ∃ ds : List Deed, vs = [.str (histText ds)] ∧ Hist ds ∧ ds.length ≤ 100 ∧ ∀ p H', Same H H' → H p = none → DeedsT H' p ds → Q (.ref p) H'
section
variable {P : Program} {w : World} {K : PySem.W.Frag} {mg : Str → Option Value} {base : Heap}
theorem scReadDs : FnScope ["text", "lines", "deeds", "lives", "number", "line", "deed"] ["text"] (defScope sReadDs) := ⟨rfl, rfl, rfl, by decide +kernel, rfl, by decide +kernel, by decide +kernel⟩
theorem ok_readds {f fR fC : Addr} {fd fdR fdC : FuncData} {k : Nat} (F : Fun K "read_deeds" "read_deeds" sReadDs f fd) (B : Blt mg) (B3 : Blt3 mg)
    (GR : FnOk P w K mg base CX0 k fR fdR ["line"] spReadD1) (gR : mg "read_deed" = some (.ref fR)) (kR : PySem.W.keepIn K (.ref fR) = true) (bR : Binds K fdR ["line"] [])
    (GC : FnOk P w K mg base CX0 k fC fdC ["value", "lives", "many"] spCanStand) (gC : mg "can_stand" = some (.ref fC)) (kC : PySem.W.keepIn K (.ref fC) = true) (bC : Binds K fdC ["value", "lives", "many"] []) :
    FnOk P w K mg base CX0 (k + 1) f fd ["text"] spReadDs := by
  refine F.ok scReadDs (fun vs H Q E h => ?_) (fun cdv A outer s H vs Q E hr h => ?_)
  · obtain ⟨ds, rfl, _⟩ := h
    rfl
  · obtain ⟨ds, rfl, hH, hl, q⟩ := h
    have hu := hu_of hr
    refine ⟨_, pss_cons (ps_if (pt_not (pt_val (pe_callB call_isi (by rfl) B3.isi PyProof.Rows.boot_isinstance (pa_cons (pv 0) (pa_cons (pe_bltn (v := .ty "str") (by rfl) B3.str (by decide +kernel) rfl) pa_nil))))) (pss_one ps_never) pss_nil)
      (pss_cons (ps_set (i := 1) scReadDs.nd rfl (.inl rfl) (pe_ifExp (pt_truth (pv 0) (by intro _; rfl)) (pe_split (pv 0) pe_str) (pe_lst pa_nil)))
      (pss_cons (ps_set (i := 2) scReadDs.nd rfl (.inl rfl) (pe_lst pa_nil))
      (pss_cons (ps_set (i := 3) scReadDs.nd rfl (.inl rfl) pe_dnewK)
      (pss_cons (ps_for PassesOwn.never rfl (pi_enumK (by rfl) B3.enum (pa_cons (pv 1) pa_nil) (pk_cons pe_int pk_nil)) (pg_tup rfl (pgs_cons (pg_name (i := 4) scReadDs.nd rfl (Or.inl rfl)) (pgs_cons (pg_name (i := 5) scReadDs.nd rfl (Or.inl rfl)) pgs_nil)))
        (pss_cons (ps_set (i := 6) scReadDs.nd rfl (.inl rfl) (pe_call GR hr (by rfl) gR kR bR .nil pass0 (pa_cons (pv 5) pa_nil)))
        (pss_cons (ps_if (pt_not (pt_val (pe_call GC hr (by rfl) gC kC bC .nil pass0 (pa_cons (pv 6) (pa_cons (pv 3) (pa_cons (pe_callB call_len_seq (by rfl) B.len PySem.boot_len (pa_cons (pv 2) pa_nil)) pa_nil)))))) (pss_one ps_never) pss_nil)
        (pss_cons (ps_expr (pe_bm PySem.F.plainAttrs_list PySem.F.slot_list_append PySem.F.type_list_append mt_append (pv 2) (pa_cons (pv 6) pa_nil)))
        (pss_one (ps_dput hu (pv 3) (pe_ix ix_tup (pv 6) pe_int (fun _ _ => rfl)) (pe_cmpR op_eq (pe_ix ix_tup (pv 6) pe_int (fun _ _ => rfl)) pe_str (nomark _)) rfl))))))
      (pss_one (ps_ret (pe_callTy call_tuple_of (by rfl) B3.tuple PyProof.Rows.boot_tuple (pa_cons (pv 2) pa_nil)))))))), ?_⟩
    refine rs_no ?_
    refine ⟨.str (histText ds), rfl, .str (histText ds), .ty "str", .type "str", .type "str", true, rfl, .ty _, .base (.str _), kit_ty (by decide +kernel), true, rfl, ?_⟩
    have htl : (histText ds).length ≤ 200000 := Nat.le_trans (join_len _ _) (hist_sum hH hl)
    refine rs_setP (fun v H1 => ∃ ll : Addr, v = .ref ll ∧ Same H H1 ∧ H ll = none ∧ H1 ll = some (.lst ((ds.map deedLine).map V.str))) (fun Q1 q1 => ?_) (fun v H1 ⟨ll, ev, s1, nll, ell⟩ => ?_)
    · by_cases h0 : ds = []
      · subst h0
        refine ⟨.str (histText []), rfl, false, ⟨by rw [sizeLine_eq]; omega, by decide +kernel⟩, ?_⟩
        show if false = true then _ else _
        rw [if_neg Bool.false_ne_true]
        exact ⟨Nat.zero_le _, fun ll nll => q1 _ _ ⟨ll, rfl, same_upd nll, nll, upd_same⟩⟩
      · have hne := hist_ne hH hl h0
        refine ⟨.str (histText ds), rfl, true, ⟨by rw [sizeLine_eq]; omega, by
          symm
          rw [bne_iff_ne]
          omega⟩, ?_⟩
        show if true = true then _ else _
        rw [if_pos rfl]
        refine ⟨.str (histText ds), rfl, ⟨_, rfl⟩, histText ds, sNl, rfl, rfl, by decide +kernel, by rw [sizeLine_eq]; omega, fun ll nll => ?_⟩
        rw [hist_split hH hl h0]
        exact q1 _ _ ⟨ll, rfl, same_upd nll, nll, upd_same⟩
    subst ev
    refine rs_set ?_
    refine ⟨Nat.zero_le _, fun dl ndl => ?_⟩
    refine rs_set ?_
    intro d nd
    have s2 := (s1.trans (same_upd (o := .lst []) ndl)).trans (same_upd (o := .dK []) nd)
    have ndl0 : H dl = none := s1.free ndl
    have nd0 : H d = none := (s1.trans (same_upd (o := .lst []) ndl)).free nd
    have ell2 := (same_upd (o := .dK []) nd) _ _ ((same_upd (o := .lst []) ndl) _ _ ell)
    have edl2 : (upd (upd H1 dl (.lst [])) d (.dK [])) dl = some (.lst []) := (same_upd nd) _ _ upd_same
    have ed2 : LivesAt (upd (upd H1 dl (.lst [])) d (.dK [])) d [] := upd_same
    have dld : dl ≠ d := ne_of_none upd_same nd
    have lldl : ll ≠ dl := fun z => by rw [z, ndl] at ell; cases ell
    have lld : ll ≠ d := ne_of_none ((same_upd ndl) _ _ ell) nd
    generalize (upd (upd H1 dl (.lst [])) d (.dK [])) = H2 at s2 ell2 edl2 ed2 ⊢
    refine rs_enumK 1 ((ds.map deedLine).map V.str) (fun a H3 => a = ll ∧ H3 = H2)
      (fun a j σ' H' => ∃ (o4 o5 o6 : Option V) (qs : List Addr), σ' = [some (.str (histText ds)), some (.ref ll), some (.ref dl), some (.ref d), o4, o5, o6] ∧ Same H H' ∧ a = ll ∧ H' ll = some (.lst ((ds.map deedLine).map V.str)) ∧ H' dl = some (.lst (qs.map V.ref)) ∧ Paired (DeedAt H') qs (ds.take j) ∧ LivesAt H' d (ds.take j))
      (fun R hR => ⟨.ref ll, rfl, ll, (ds.map deedLine).map V.str, 1, rfl, rfl, by decide, by decide, sql_of ell2, hR ll _ ⟨rfl, rfl⟩⟩)
      (fun a H3 ⟨e, e3⟩ => by subst e e3; exact ⟨_, _, _, [], rfl, s2, rfl, ell2, edl2, .nil, ed2⟩)
      (fun a j σ' H' _ ⟨_, _, _, _, _, _, e, w, _⟩ => by rw [e]; exact sql_of w) ?_ ?_
    · rintro a j x σ' H' T hj ⟨o4, o5, o6, qs, rfl, sx, rfl, el', em, hp, ed⟩ nT hx
      obtain ⟨ln, hln, rfl⟩ := map_get hx
      rw [List.getElem?_map] at hln
      obtain ⟨e, he, rfl⟩ : ∃ e, ds[j]? = some e ∧ ln = deedLine e := by
        cases hh : ds[j]? with
        | none => rw [hh] at hln; cases hln
        | some t => rw [hh] at hln; exact ⟨t, rfl, (Option.some.inj hln).symm⟩
      have hjl := (List.getElem?_eq_some_iff.mp he).1
      have hql : qs.length ≤ 100 := by rw [Paired.length hp, List.length_take]; omega
      have et : ds.take (j + 1) = ds.take j ++ [e] := take_snoc he
      have hH1 : Hist (ds.take j ++ [e]) := by rw [← et]; exact hH.take (j + 1)
      have hcl := hH.came_take j
      refine ⟨T, [.int (1 + (j : Nat)), .str (deedLine e)], rfl, sqt_of upd_same, rfl, _, [.str (deedLine e)], rfl, _, [], rfl, rfl, ?_⟩
      have sT : Same H' (upd H' T (.tup [.int (1 + (j : Nat)), .str (deedLine e)])) := same_upd nT
      generalize (upd H' T (.tup [.int (1 + (j : Nat)), .str (deedLine e)])) = H3 at sT ⊢
      refine rs_set ?_
      refine ⟨.str (deedLine e), rfl, e, rfl, FineD.of hH hl (List.mem_of_getElem? he), fun qd H4 s4 nq edd => ?_⟩
      have s5 := sT.trans s4
      refine rs_no ?_
      refine ⟨.ref qd, rfl, .ref d, rfl, .ref dl, rfl, dl, _, rfl, .inl (sql_of (s5 _ _ em)), qd, d, e, ds.take j, (qs.map V.ref).length, rfl, edd, ed.keep s5, hH1, by rw [List.length_take]; omega, by rw [List.length_map]; omega, fun H5 s6 => ⟨true, rfl, ?_⟩⟩
      have s7 := s5.trans s6
      have em5 := s7 _ _ em
      have ed5 := ed.keep s7
      have edd5 := edd.keep s6
      obtain ⟨more, ew⟩ := edd5.two (K := K)
      refine rs_bm ?_
      refine ⟨.ref dl, rfl, .inl ⟨rfl, _, sql_of em5⟩, .ref qd, rfl, dl, _, _, rfl, rfl, em5, smallM (by rw [List.length_map]; omega), ?_⟩
      have kd : ∀ (q' : Addr) (e' : Deed), DeedAt H5 q' e' → ∀ (o : HO), DeedAt (upd (upd H5 dl (.lst (qs.map V.ref ++ [.ref qd]))) d o) q' e' := fun q' e' h o => by
        have kt : ∀ {b : Addr} {vs : List V}, H5 b = some (.tup vs) → (upd (upd H5 dl (.lst (qs.map V.ref ++ [.ref qd]))) d o) b = some (.tup vs) := fun {b vs} hb => by
          have ed5' : H5 d = some (.dK _) := ed5
          rw [upd_ne (fun y => by rw [y, ed5'] at hb; cases hb), upd_ne (fun y => by rw [y, em5] at hb; cases hb)]
          exact hb
        cases e' with
        | come n ts =>
          obtain ⟨tq, h1, h2⟩ := h
          exact ⟨tq, kt h1, kt h2⟩
        | die n => exact kt h
      have ew2 : (upd H5 dl (.lst (qs.map V.ref ++ [.ref qd]))) qd = some (.tup (.str e.word :: .str e.name :: more)) := by
        rw [upd_ne (fun y => by rw [y, em5] at ew; cases ew)]; exact ew
      have ed6 : LivesAt (upd H5 dl (.lst (qs.map V.ref ++ [.ref qd]))) d (ds.take j) := by
        show (upd _ dl _) d = _
        rw [upd_ne (Ne.symm dld)]; exact ed5
      refine ⟨.ref qd, rfl, qd, _, 0, .str e.word, rfl, rfl, sqt_of ew2, atI_nat (j := 0) rfl, rfl, .ref d, rfl, .ref qd, rfl, qd, _, 1, .str e.name, rfl, rfl, sqt_of ew2, atI_nat (j := 1) rfl, d, _, rfl, DPut.k (k := Sum.inr e.name) ed6 (smallM (by rw [encF_len]; omega)), _, _, _, qs ++ [qd], rfl, fun b o eb => ?_, rfl, ?_, ?_, ?_, ?_⟩
      · rw [upd_ne (ne_of_none eb nd0), upd_ne (ne_of_none eb ndl0)]; exact s7 _ _ (sx _ _ eb)
      · rw [upd_ne lld, upd_ne lldl]; exact s7 _ _ el'
      · rw [upd_ne dld, upd_same, List.map_append]; rfl
      · rw [et]
        exact paired_snoc (kd qd e edd5 _) (paired_mono (fun q' e' h => kd q' e' (h.keep s7) _) hp)
      · show (upd _ d _) d = _
        rw [upd_same, et, word_come e, lives_step hH1]
    · rintro a σ' H' ⟨o4, o5, o6, qs, rfl, sx, rfl, el', em, hp, ed⟩
      rw [List.length_map, List.length_map, List.take_length] at hp
      exact ⟨.ref dl, rfl, dl, _, rfl, .inl ⟨sql_of em, fun p np => q p _ (sx.trans (same_upd np)) (sx.free np) ⟨qs, upd_same, paired_mono (fun q' e' h => h.keep (same_upd np)) hp⟩⟩⟩
end
end Hw

set_option Elab.async false
set_option linter.all false
set_option maxRecDepth 100000
set_option maxHeartbeats 4000000
namespace Hw
open PySem L2 PyProof.Rows
abbrev sInitH : Stmt := inClass (topS 15) 0
abbrev sLenH : Stmt := inClass (topS 15) 1
theorem SameX.tup {H H' : Hp} {x b C dx : Addr} {fs : List (Str × V)} {vs : List V} (s : SameX x H H') (hx : H x = some (.ins C dx fs)) (e : H b = some (.tup vs)) : H' b = some (.tup vs) := s _ _ (fun z => by rw [z, hx] at e; cases e) e
theorem DeedAt.put {H H' : Hp} {x q C dx : Addr} {fs : List (Str × V)} (s : SameX x H H') (hx : H x = some (.ins C dx fs)) : ∀ {d : Deed}, DeedAt H q d → DeedAt H' q d
  | .come _ _, ⟨tq, h1, h2⟩ => ⟨tq, s.tup hx h1, s.tup hx h2⟩
  | .die _, h => s.tup hx h
theorem DeedsT.put {H H' : Hp} {x p C dx : Addr} {fs : List (Str × V)} {ds : List Deed} (h : DeedsT H p ds) (s : SameX x H H') (hx : H x = some (.ins C dx fs)) : DeedsT H' p ds := by
  obtain ⟨qs, h1, h2⟩ := h
  exact ⟨qs, s.tup hx h1, paired_mono (fun q d e => e.put s hx) h2⟩
theorem LivesAt.put {H H' : Hp} {x d C dx : Addr} {fs : List (Str × V)} {ds : List Deed} (h : LivesAt H d ds) (s : SameX x H H') (hx : H x = some (.ins C dx fs)) : LivesAt H' d ds := s _ _ (fun z => by
  have h : H d = _ := h
  rw [z, hx] at h; cases h) h
theorem sameX_upd {H : Hp} {x : Addr} {o : HO} : SameX x H (upd H x o) := fun b u hb e => by rw [upd_ne hb]; exact e
/-- a History at x -/
structure HistO (C : Addr) (H : Hp) (x : Addr) (ds : List Deed) : Prop where
  ex : ∃ (dx dp lp ep : Addr) (fs : List (Str × V)), H x = some (.ins C dx fs) ∧ fs.length ≤ 4 ∧ fs.lookup ("text" : Str) = some (.str (histText ds)) ∧ fs.lookup ("deeds" : Str) = some (.ref dp) ∧ fs.lookup ("living" : Str) = some (.ref lp) ∧ fs.lookup ("dead" : Str) = some (.ref ep) ∧
    DeedsT H dp ds ∧ H lp = some (.tup ((sortS (liv ds)).map V.str)) ∧ H ep = some (.tup ((sortS (deadD ds)).map V.str))
  hist : Hist ds
  few : ds.length ≤ 100
theorem HistO.keep {C : Addr} {H H' : Hp} {x : Addr} {ds : List Deed} (w : HistO C H x ds) (s : Same H H') : HistO C H' x ds := by
  obtain ⟨⟨dx, dp, lp, ep, fs, h1, h2, h3, h4, h5, h6, h7, h8, h9⟩, a, b⟩ := w
  exact ⟨⟨dx, dp, lp, ep, fs, s _ _ h1, h2, h3, h4, h5, h6, h7.keep s, s _ _ h8, s _ _ h9⟩, a, b⟩
structure TxtH (K : PySem.W.Frag) (mg : Str → Option Value) (C : Addr) : Prop where
  cl : Cls K C
  nT : NoAttr K C "text"
  nD : NoAttr K C "deeds"
  nL : NoAttr K C "living"
  nE : NoAttr K C "dead"
  mH : mg "History" = some (.ref C)
def spInitH (C : Addr) : Sp := fun vs H Q _ => ∃ (x dx : Addr) (ds : List Deed), vs = [.ref x, .str (histText ds)] ∧ Hist ds ∧ ds.length ≤ 100 ∧ H x = some (.ins C dx []) ∧ ∀ H', HistO C H' x ds → SameX x H H' → Q .non H'
def spLenH (C : Addr) : Sp := fun vs H Q _ => ∃ (x : Addr) (ds : List Deed), vs = [.ref x] ∧ HistO C H x ds ∧ Q (.int (ds.length : Nat)) H
section
variable {P : Program} {w : World} {K : PySem.W.Frag} {mg : Str → Option Value} {base : Heap}
theorem scInitH : FnScope ["self", "text", "deeds", "lives"] ["self", "text"] (defScope sInitH) := ⟨rfl, rfl, rfl, by decide +kernel, rfl, by decide +kernel, by decide +kernel⟩
theorem ok_initH {f fR fL fN C : Addr} {fd fdR fdL fdN : FuncData} {k : Nat} (F : Fun K "__init__" "History.__init__" sInitH f fd) (T : TxtH K mg C)
    (GR : FnOk P w K mg base CX0 k fR fdR ["text"] spReadDs) (gR : mg "read_deeds" = some (.ref fR)) (kR : PySem.W.keepIn K (.ref fR) = true) (bR : Binds K fdR ["text"] [])
    (GL : FnOk P w K mg base CX0 k fL fdL ["deeds"] spLivesB) (gL : mg "lives_behind" = some (.ref fL)) (kL : PySem.W.keepIn K (.ref fL) = true) (bL : Binds K fdL ["deeds"] [])
    (GN : FnOk P w K mg base CX0 k fN fdN ["live", "lives"] spNamesT) (gN : mg "names_that" = some (.ref fN)) (kN : PySem.W.keepIn K (.ref fN) = true) (bN : Binds K fdN ["live", "lives"] []) :
    FnOk P w K mg base CX0 (k + 1) f fd ["self", "text"] (spInitH C) := by
  refine F.ok scInitH (fun vs H Q E h => ?_) (fun cdv A outer s H vs Q E hr h => ?_)
  · obtain ⟨x, dx, ds, rfl, _⟩ := h
    rfl
  · obtain ⟨x, dx, ds, rfl, hH, hl, hx, q⟩ := h
    refine ⟨_, pss_cons (ps_set (i := 2) scInitH.nd rfl (.inl rfl) (pe_call GR hr (by rfl) gR kR bR .nil pass0 (pa_cons (pv 1) pa_nil)))
      (pss_cons (ps_set (i := 3) scInitH.nd rfl (.inl rfl) (pe_call GL hr (by rfl) gL kL bL .nil pass0 (pa_cons (pv 2) pa_nil)))
      (pss_cons (ps_fld (pv 0) (pv 1) rfl) (pss_cons (ps_fld (pv 0) (pv 2) rfl)
      (pss_cons (ps_fld (pv 0) (pe_call GN hr (by rfl) gN kN bN .nil pass0 (pa_cons pe_bl (pa_cons (pv 3) pa_nil))) rfl)
      (pss_one (ps_fld (pv 0) (pe_call GN hr (by rfl) gN kN bN .nil pass0 (pa_cons pe_bl (pa_cons (pv 3) pa_nil))) rfl)))))), ?_⟩
    refine rs_set ?_
    refine ⟨.str (histText ds), rfl, ds, rfl, hH, hl, fun dp H1 s1 ndp hdp => ?_⟩
    refine rs_set ?_
    refine ⟨.ref dp, rfl, dp, ds, rfl, hdp, hH, by omega, fun d H2 s2 nd hd => ?_⟩
    have e0 := s2 _ _ (s1 _ _ hx)
    have hdp2 := hdp.keep s2
    have l1 := length_putF "text" (V.str (histText ds)) []
    have l2 := length_putF "deeds" (V.ref dp) (putF "text" (V.str (histText ds)) [])
    have l0 : ([] : List (Str × V)).length = 0 := rfl
    have hA1 := hdp2.put (sameX_upd (o := .ins C dx (putF "text" (.str (histText ds)) []))) e0
    have hA2 := hA1.put (sameX_upd (o := .ins C dx (putF "deeds" (.ref dp) (putF "text" (.str (histText ds)) [])))) upd_same
    have hB1 := hd.put (sameX_upd (o := .ins C dx (putF "text" (.str (histText ds)) []))) e0
    have hB2 := hB1.put (sameX_upd (o := .ins C dx (putF "deeds" (.ref dp) (putF "text" (.str (histText ds)) [])))) upd_same
    refine ⟨.str (histText ds), rfl, .ref x, rfl, x, C, dx, [], rfl, e0, T.cl, T.nT, by omega, .ref dp, rfl, .ref x, rfl, x, C, dx, _, rfl, upd_same, T.cl, T.nD, by omega, ?_⟩
    have ex2 : (upd (upd H2 x (.ins C dx (putF "text" (.str (histText ds)) []))) x (.ins C dx (putF "deeds" (.ref dp) (putF "text" (.str (histText ds)) [])))) x = some (.ins C dx (putF "deeds" (.ref dp) (putF "text" (.str (histText ds)) []))) := upd_same
    have sxA : SameX x H (upd (upd H2 x (.ins C dx (putF "text" (.str (histText ds)) []))) x (.ins C dx (putF "deeds" (.ref dp) (putF "text" (.str (histText ds)) [])))) := ((SameX.of (s1.trans s2)).trans sameX_upd).trans sameX_upd
    generalize (upd (upd H2 x (.ins C dx (putF "text" (.str (histText ds)) []))) x (.ins C dx (putF "deeds" (.ref dp) (putF "text" (.str (histText ds)) [])))) = H3 at hA2 hB2 ex2 sxA ⊢
    refine ⟨.ref d, rfl, true, d, ds, rfl, hB2, hH, by omega, fun lp H4 s4 elp => ?_⟩
    have ex4 := s4 _ _ ex2
    have l3 := length_putF "living" (V.ref lp) (putF "deeds" (V.ref dp) (putF "text" (V.str (histText ds)) []))
    refine ⟨.ref x, rfl, x, C, dx, _, rfl, ex4, T.cl, T.nL, by omega, ?_⟩
    have hA4 := (hA2.keep s4).put (sameX_upd (o := .ins C dx (putF "living" (.ref lp) (putF "deeds" (.ref dp) (putF "text" (.str (histText ds)) []))))) ex4
    have hB4 := (hB2.keep s4).put (sameX_upd (o := .ins C dx (putF "living" (.ref lp) (putF "deeds" (.ref dp) (putF "text" (.str (histText ds)) []))))) ex4
    have elp4 := (sameX_upd (o := .ins C dx (putF "living" (.ref lp) (putF "deeds" (.ref dp) (putF "text" (.str (histText ds)) []))))).tup ex4 elp
    have ex5 : (upd H4 x (.ins C dx (putF "living" (.ref lp) (putF "deeds" (.ref dp) (putF "text" (.str (histText ds)) []))))) x = some (.ins C dx (putF "living" (.ref lp) (putF "deeds" (.ref dp) (putF "text" (.str (histText ds)) [])))) := upd_same
    have sxB : SameX x H (upd H4 x (.ins C dx (putF "living" (.ref lp) (putF "deeds" (.ref dp) (putF "text" (.str (histText ds)) []))))) := (sxA.trans (.of s4)).trans sameX_upd
    generalize (upd H4 x (.ins C dx (putF "living" (.ref lp) (putF "deeds" (.ref dp) (putF "text" (.str (histText ds)) []))))) = H5 at hA4 hB4 elp4 ex5 sxB ⊢
    refine ⟨.ref d, rfl, false, d, ds, rfl, hB4, hH, by omega, fun ep H6 s6 eep => ?_⟩
    have ex6 := s6 _ _ ex5
    have l4 := length_putF "dead" (V.ref ep) (putF "living" (V.ref lp) (putF "deeds" (V.ref dp) (putF "text" (V.str (histText ds)) [])))
    refine ⟨.ref x, rfl, x, C, dx, _, rfl, ex6, T.cl, T.nE, by omega, q _ ⟨⟨dx, dp, lp, ep, _, upd_same, by omega, ?_, ?_, ?_, ?_, (hA4.keep s6).put sameX_upd ex6, sameX_upd.tup ex6 (s6 _ _ elp4), sameX_upd.tup ex6 eep⟩, hH, hl⟩ ((sxB.trans (.of s6)).trans sameX_upd)⟩
    · rw [lookup_putF, if_neg (by decide), lookup_putF, if_neg (by decide), lookup_putF, if_neg (by decide), lookup_putF, if_pos rfl]
    · rw [lookup_putF, if_neg (by decide), lookup_putF, if_neg (by decide), lookup_putF, if_pos rfl]
    · rw [lookup_putF, if_neg (by decide), lookup_putF, if_pos rfl]
    · rw [lookup_putF, if_pos rfl]
theorem scLenH : FnScope ["self"] ["self"] (defScope sLenH) := ⟨rfl, rfl, rfl, by decide +kernel, rfl, by decide +kernel, by decide +kernel⟩
theorem ok_lenH {f C : Addr} {fd : FuncData} {k : Nat} (F : Fun K "__len__" "History.__len__" sLenH f fd) (T : TxtH K mg C) (B : Blt mg) : FnOk P w K mg base CX0 (k + 1) f fd ["self"] (spLenH C) := by
  refine F.ok scLenH (fun vs H Q E h => ?_) (fun cdv A outer s H vs Q E hr h => ?_)
  · obtain ⟨x, ds, rfl, _⟩ := h
    rfl
  · obtain ⟨x, ds, rfl, wb, q⟩ := h
    obtain ⟨⟨dx, dp, lp, ep, fs, h1, h2, h3, h4, h5, h6, ⟨qs, h7, h7'⟩, h8, h9⟩, hH, hl⟩ := wb
    refine ⟨_, pss_one (ps_ret (pe_callB call_len_seq (by rfl) B.len PySem.boot_len (pa_cons (pe_fld (pv 0) rfl) pa_nil))), ?_⟩
    refine ⟨.ref x, rfl, x, C, dx, _, _, rfl, h1, T.cl, T.nD, h4, dp, qs.map V.ref, rfl, .inr (sqt_of h7), ?_⟩
    rw [List.length_map, Paired.length h7']
    exact q
end
end Hw

set_option Elab.async false
set_option linter.all false
set_option maxRecDepth 100000
set_option maxHeartbeats 4000000
namespace Hw
open PySem L2 PyProof.Rows
abbrev sLineOf : Stmt := topS 24
abbrev sEqH : Stmt := inClass (topS 15) 2
structure ClsQ (K : PySem.W.Frag) (mg : Str → Option Value) (C : Addr) : Prop where
  ha : PySem.W.findIn K (.ref C) "__class__" = some (some (.builtin "object.__class__"))
  hn : PySem.W.specialIn K (.builtin "object.__class__") "__get__" = some (some (.builtin "getset_descriptor.__get__"))
  htk : PySem.W.takesIn K (.builtin "object.__class__") = some true
  hm : PySem.W.mroIn K C (.type "object") = some true
  kS : PySem.W.kitOne K (.type "str") (.ref C) = some false
  kN : PySem.W.kitOne K (.type "NoneType") (.ref C) = some false
  kT : PySem.W.kitOne K (.type "tuple") (.ref C) = some false
  kI : PySem.W.kitOne K (.type "int") (.ref C) = some false
  fS : PySem.W.notFirst K C (.type "str") = true
  fN : PySem.W.notFirst K C (.type "NoneType") = true
  fT : PySem.W.notFirst K C (.type "tuple") = true
  fI : PySem.W.notFirst K C (.type "int") = true
theorem kit_same {K : PySem.W.Frag} {C : Addr} : PySem.W.kitOne K (.ref C) (.ref C) = some true := by
  unfold PySem.W.kitOne
  rw [if_pos (by simp)]
theorem deedLine_die (n : Str) : Str.empty ++ Str.ofString "die " ++ n = deedLine (.die n) := by
  unfold deedLine
  rw [TL.join_eq]
  show _ = sDie ++ sBl ++ n
  congr 1
def spLineOf : Sp := fun vs H Q _ => ∃ (q : Addr) (e : Deed), vs = [.ref q] ∧ DeedAt H q e ∧ FineD e ∧ ∀ H', Same H H' → Q (.str (deedLine e)) H'
def spEqH (K : PySem.W.Frag) (C : Addr) : Sp := fun vs H Q _ => ∃ (x : Addr) (y : V) (ds : List Deed), vs = [.ref x, y] ∧ HistO C H x ds ∧ ((∃ x2 ds2, y = .ref x2 ∧ HistO C H x2 ds2 ∧ Q (.bl (decide (histText ds = histText ds2))) H) ∨ ∃ t, TyX K H y t ∧ PySem.W.kitOne K t (.ref C) = some false ∧ Q (.bl false) H)
section
variable {P : Program} {w : World} {K : PySem.W.Frag} {mg : Str → Option Value} {base : Heap}
theorem scEqH : FnScope ["self", "other"] ["self", "other"] (defScope sEqH) := ⟨rfl, rfl, rfl, by decide +kernel, rfl, by decide +kernel, by decide +kernel⟩
theorem ok_eqH {f C : Addr} {fd : FuncData} {k : Nat} (F : Fun K "__eq__" "History.__eq__" sEqH f fd) (T : TxtH K mg C) (B3 : Blt3 mg) (Cq : ClsQ K mg C) : FnOk P w K mg base CX0 (k + 1) f fd ["self", "other"] (spEqH K C) := by
  refine F.ok scEqH (fun vs H Q E h => ?_) (fun cdv A outer s H vs Q E hr h => ?_)
  · obtain ⟨x, y, ds, rfl, _⟩ := h
    rfl
  · obtain ⟨x, y, ds, rfl, wb, hy⟩ := h
    obtain ⟨⟨dx, dp, lp, ep, fs, h1, h2, h3, h4, h5, h6, h7, h8, h9⟩, hH, hl⟩ := wb
    refine ⟨_, pss_one (ps_ret (pe_and (pe_callB call_isi (by rfl) B3.isi PyProof.Rows.boot_isinstance (pa_cons (pv 1) (pa_cons (pe_glob (v := .ref C) (by rfl) T.mH rfl) pa_nil)))
      (pe_one (pe_cmpR op_eq (pe_fld (pv 0) rfl) (pe_fld (pv 1) rfl) (nomark _))))), ?_⟩
    rcases hy with ⟨x2, ds2, rfl, ⟨⟨dx2, dp2, lp2, ep2, fs2, k1, k2, k3, k4, k5, k6, k7, k8, k9⟩, hH2, hl2⟩, q⟩ | ⟨t', ty, kt, q⟩
    · refine ⟨.ref x2, rfl, .ref x2, .ref C, .ref C, .ref C, true, rfl, .own _, .base (.ins k1 T.cl Cq.ha Cq.hn Cq.htk Cq.hm), kit_same, true, rfl, ?_⟩
      refine ⟨.ref x, rfl, x, C, dx, _, _, rfl, h1, T.cl, T.nT, h3, .ref x2, rfl, x2, C, dx2, _, _, rfl, k1, T.cl, T.nT, k3, rfl, ?_⟩
      have e : decide (V.str (histText ds) = V.str (histText ds2)) = decide (histText ds = histText ds2) := by
        rw [decide_eq_decide]
        exact ⟨fun e => by injection e, fun e => by rw [e]⟩
      rw [e]
      exact q
    · exact ⟨y, rfl, y, .ref C, t', .ref C, false, rfl, .own _, ty, kt, false, rfl, q⟩
theorem scLineOf : FnScope ["deed"] ["deed"] (defScope sLineOf) := ⟨rfl, rfl, rfl, by decide +kernel, rfl, by decide +kernel, by decide +kernel⟩
theorem ok_lineof {f : Addr} {fd : FuncData} {k : Nat} (F : Fun K "line_of" "line_of" sLineOf f fd) : FnOk P w K mg base CX0 (k + 1) f fd ["deed"] spLineOf := by
  refine F.ok scLineOf (fun vs H Q E h => ?_) (fun cdv A outer s H vs Q E hr h => ?_)
  · obtain ⟨q, e, rfl, _⟩ := h
    rfl
  · obtain ⟨qd, e, rfl, ed, fe, q⟩ := h
    refine ⟨_, pss_cons (ps_if (pt_cmpR op_eq (pe_ix ix_tup (pv 0) pe_int (fun _ _ => rfl)) pe_str (nomark _)) (pss_one (ps_ret (pe_join pe_str (pe_lst (pa_cons pe_str (pa_cons (pe_ix ix_tup (pv 0) pe_int (fun _ _ => rfl)) (StX.pa_star (pe_ix ix_tup (pv 0) pe_int (fun _ _ => rfl)) pa_nil))))))) pss_nil)
      (pss_one (ps_ret (pe_joined (.cons pe_str (.cons (pe_fmt (pe_ix ix_tup (pv 0) pe_int (fun _ _ => rfl))) .nil))))), ?_⟩
    obtain ⟨more, em⟩ := ed.two (K := K)
    refine rs_no ?_
    refine ⟨.ref qd, rfl, qd, _, 0, .str e.word, rfl, rfl, sqt_of em, atI_nat (j := 0) rfl, rfl, _, congrArg V.bl (word_come e), ?_⟩
    cases e with
    | come n ts =>
      obtain ⟨tq, e1, e2⟩ := ed
      have hf : ts.length ≤ 100 := fe.few
      show if true = true then _ else _
      rw [if_pos rfl]
      refine ⟨⟨_, rfl⟩, .ref qd, rfl, qd, _, 1, .str n, rfl, rfl, sqt_of e1, rfl, .ref qd, rfl, qd, _, 2, .ref tq, rfl, rfl, sqt_of e1, rfl, tq, ts.map V.str, rfl, .inl (sqt_of e2), (by rw [List.length_cons, List.length_cons, List.length_append, List.length_map]; exact Nat.le_of_lt (smallM (by show _ + 0 + 1 + 1 ≤ _; omega))), fun l1 n1 => ?_⟩
      refine ⟨Str.ofString " ", l1, sCome :: n :: ts, rfl, rfl, .inl (sql_of (by rw [upd_same, List.append_nil]; rfl)), ?_, q _ (same_upd n1)⟩
      have hs := sum_le (ps := sCome :: n :: ts) (b := 8) fun p hp => by
        rcases List.mem_cons.mp hp with rfl | hp
        · decide +kernel
        · rcases List.mem_cons.mp hp with rfl | hp
          · exact fe.nm.2.1
          · exact (fe.ts p hp).2.1
      have e1' : (Str.ofString " ").length = 1 := by decide +kernel
      have el : (sCome :: n :: ts).length = ts.length + 2 := rfl
      rw [el] at hs ⊢
      rw [e1']
      omega
    | die n =>
      show if false = true then _ else _
      rw [if_neg Bool.false_ne_true]
      have hn : n.length ≤ 8 := fe.nm.2.1
      have k1 : (Str.empty ++ Str.ofString "die ").length = 4 := by decide +kernel
      refine r_ret ?_
      refine ⟨_, rfl, Nat.le_of_lt (smallM (by rw [k1]; decide)), .ref qd, rfl, qd, _, 1, .str n, rfl, rfl, sqt_of (show H qd = some (.tup [.str sDie, .str n]) from ed), rfl, .inl ⟨n, rfl, Nat.le_of_lt (smallM (by omega)), _, rfl, Nat.le_of_lt (smallM (by rw [app_len, k1]; omega)), ?_⟩⟩
      have q0 := q H (Same.refl _)
      rw [← deedLine_die] at q0
      exact q0
end
end Hw

set_option Elab.async false
set_option linter.all false
set_option maxRecDepth 100000
set_option maxHeartbeats 4000000
namespace Hw
open PySem L2 PyProof.Rows
theorem len_putF_old {f : Str} {v w : V} : ∀ {fs : List (Str × V)}, fs.lookup f = some w → (putF f v fs).length = fs.length
  | [], h => by cases h
  | (k, x) :: r, h => by
    rw [show putF f v ((k, x) :: r) = (if k = f then (k, v) :: r else (k, x) :: putF f v r) from rfl]
    by_cases e : k = f
    · rw [if_pos e]; rfl
    · rw [if_neg e, List.length_cons, List.length_cons]
      have h2 : r.lookup f = some w := by
        rw [List.lookup_cons] at h
        have : (f == k) = false := by simpa using Ne.symm e
        rw [this] at h
        exact h
      rw [len_putF_old h2]
theorem str_app_assoc (a b c : Str) : a ++ b ++ c = a ++ (b ++ c) := by
  apply str_ext
  rw [app_cps, app_cps, app_cps, app_cps, List.append_assoc]
theorem sjoin_snoc (y x : Str) : ∀ {ps : List Str}, ps ≠ [] → Str.join y (ps ++ [x]) = Str.join y ps ++ y ++ x
  | [], h => absurd rfl h
  | [p], _ => rfl
  | p :: q :: r, _ => by
    have ih := sjoin_snoc y x (ps := q :: r) (by simp)
    show p ++ y ++ Str.join y ((q :: r) ++ [x]) = p ++ y ++ Str.join y (q :: r) ++ y ++ x
    rw [ih]
    simp only [str_app_assoc]
theorem hist_snoc {ds : List Deed} (h : ds ≠ []) (e : Deed) : Txt.join sNl [histText ds, deedLine e] = histText (ds ++ [e]) := by
  unfold histText
  rw [TL.join_eq, TL.join_eq, TL.join_eq, List.map_append]
  have := sjoin_snoc sNl (deedLine e) (ps := ds.map deedLine) (by simpa using h)
  exact this.symm
theorem hist_one (e : Deed) : deedLine e = histText ([] ++ [e]) := by
  unfold histText
  rw [TL.join_eq]; rfl
theorem rs_fldP {K : PySem.W.Frag} {ta tv : TE} {f : Str} {u : TS} {D : Ends} {σ : L2.St} {H : Hp} (P0 : V → Hp → Prop) (hw : ∀ Q : VK, (∀ v H1, P0 v H1 → Q v H1) → tv σ H Q)
    (h : ∀ v H1, P0 v H1 → ta σ H1 fun x H2 => ∃ a C dx fs, x = .ref a ∧ H2 a = some (.ins C dx fs) ∧ Cls K C ∧ NoAttr K C f ∧ fs.length < 1000 ∧ u D σ (upd H2 a (.ins C dx (putF f v fs)))) : tSeq (sFld K ta tv f) u D σ H := hw _ h
def spLedOn (C : Addr) : Sp := fun vs H Q _ => ∃ (x q : Addr) (ds : List Deed) (e : Deed), vs = [.ref x, .ref q] ∧ HistO C H x ds ∧ DeedAt H q e ∧ Hist (ds ++ [e]) ∧ ds.length < 100 ∧ ∀ y H', HistO C H' y (ds ++ [e]) → Same H H' → H y = none → Q (.ref y) H'
section
variable {P : Program} {w : World} {K : PySem.W.Frag} {mg : Str → Option Value} {base : Heap}
end
end Hw

set_option Elab.async false
set_option linter.all false
set_option maxRecDepth 100000
set_option maxHeartbeats 4000000
namespace Hw
open PySem L2 PyProof.Rows
structure Tame (w : Nat) (d : PyData) : Prop where
  lay : d.canLay0 = true
  sh : d.showable = true
  short : d.intsShort 13 = true
  dp : d.depth ≤ 10
  wt : d.weight ≤ w
theorem Tame.mono {w w' : Nat} {d : PyData} (t : Tame w d) (h : w ≤ w') : Tame w' d := ⟨t.lay, t.sh, t.short, t.dp, Nat.le_trans t.wt h⟩
theorem Tame.len {w : Nat} {d : PyData} (t : Tame w d) (h : w ≤ 2 ^ 20) : d.shown.length ≤ sizeLine := by
  have l : d.layable0 = true := by
    show (d.canLay0 && decide (d.depth ≤ 64) && decide (d.weight ≤ 2 ^ 20)) = true
    rw [t.lay, decide_eq_true (Nat.le_trans t.dp (by decide)), decide_eq_true (Nat.le_trans t.wt h)]; rfl
  have := PyProof.Rows.shown_le13 l t.short
  rw [sizeLine_eq]; omega
theorem tame_str {z : Str} (h : Nm z) : Tame 8 (.str z) := ⟨by rw [PyData.canLay0]; exact nm_ok h, by rw [PyData.showable], by rw [PyData.intsShort], by rw [PyData.depth]; decide, by rw [PyData.weight]; exact h.2.1⟩
theorem tame_int {n : Nat} (h : n ≤ 200) : Tame 8 (.int (n : Int)) := by
  have a : ((List.range 201).all fun n => decide ((PyData.int (n : Int)).shown.length ≤ 13) && decide ((PyData.int (n : Int)).weight ≤ 8)) = true := by decide +kernel
  have b := List.all_eq_true.mp a n (List.mem_range.mpr (by omega))
  simp only [Bool.and_eq_true, decide_eq_true_eq] at b
  have c : ((n : Int)).natAbs.log2 < 1920 := by
    have : ((n : Int)).natAbs = n := Int.natAbs_natCast n
    rw [this]
    by_cases h0 : n = 0
    · rw [h0]; decide
    · exact (Nat.log2_lt h0).mpr (Nat.lt_of_le_of_lt h (by exact Nat.lt_of_lt_of_le (by decide : 200 < 2 ^ 8) (Nat.pow_le_pow_right (by decide) (by decide))))
  exact ⟨by rw [PyData.canLay0], by rw [PyData.showable]; exact decide_eq_true c, by rw [PyData.intsShort]; exact decide_eq_true b.1, by rw [PyData.depth]; decide, b.2⟩
theorem tame_all {w : Nat} : ∀ {ds : List PyData}, (∀ d ∈ ds, Tame w d ∧ d.depth ≤ 5) → PyData.canLayAll0 ds = true ∧ PyData.showableAll ds = true ∧ PyData.intsShortAll 13 ds = true ∧ PyData.depthAll ds ≤ 5 ∧ PyData.weightAll ds ≤ ds.length * (w + 1)
  | [], _ => ⟨by rw [PyData.canLayAll0], by rw [PyData.showableAll], by rw [PyData.intsShortAll], by rw [PyData.depthAll]; decide, by rw [PyData.weightAll]; exact Nat.zero_le _⟩
  | d :: ds, h => by
    obtain ⟨t, hd⟩ := h d List.mem_cons_self
    obtain ⟨a, b, c, e, f⟩ := tame_all fun x hx => h x (List.mem_cons_of_mem _ hx)
    refine ⟨by rw [PyData.canLayAll0, t.lay, a]; rfl, by rw [PyData.showableAll, t.sh, b]; rfl, by rw [PyData.intsShortAll, t.short, c]; rfl, by rw [PyData.depthAll]; omega, ?_⟩
    rw [PyData.weightAll, List.length_cons, Nat.add_mul, Nat.one_mul]
    have := t.wt
    omega
theorem tame_tup {w : Nat} {ds : List PyData} (h : ∀ d ∈ ds, Tame w d ∧ d.depth ≤ 5) : Tame (ds.length * (w + 1)) (.tuple ds) ∧ (PyData.tuple ds).depth ≤ PyData.depthAll ds + 1 := by
  obtain ⟨a, b, c, e, f⟩ := tame_all h
  exact ⟨⟨by rw [PyData.canLay0]; exact a, by rw [PyData.showable]; exact b, by rw [PyData.intsShort]; exact c, by rw [PyData.depth]; omega, by rw [PyData.weight]; exact f⟩, by rw [PyData.depth]; exact Nat.le_refl _⟩
theorem repr_tame {X : Cx} {K : PySem.W.Frag} {w : Nat} {x : V} {d : PyData} {H : Hp} {Q : VK} (h : Dp K H x d) (t : Tame w d) (hw : w ≤ 2 ^ 20) (q : Q (.str d.shown) H) : rRepr K [x] H Q := ⟨x, d, rfl, .inl h, t.sh, Nat.le_trans t.dp (by decide), t.len hw, q⟩
theorem depthAll_le {m : Nat} : ∀ {ds : List PyData}, (∀ d ∈ ds, d.depth ≤ m) → PyData.depthAll ds ≤ m
  | [], _ => by rw [PyData.depthAll]; exact Nat.zero_le _
  | d :: ds, h => by
    rw [PyData.depthAll]
    have h1 := h d List.mem_cons_self
    have h2 := depthAll_le fun x hx => h x (List.mem_cons_of_mem _ hx)
    omega
def gRev : List Value → List Value → List Value := fun us ws => match us with
  | [] => ws.reverse
  | _ :: _ => []
def gVRev : List V → List V → List V := fun us ws => match us with
  | [] => ws.reverse
  | _ :: _ => []
theorem vals_rev : ∀ {vs : List V} {us : List Value}, Vals vs us → Vals vs.reverse us.reverse
  | _, _, .nil => .nil
  | _, _, .cons r t => by
    rw [List.reverse_cons, List.reverse_cons]
    exact (vals_rev t).append (.cons r .nil)
theorem rev_rel {vs : List V} {us : List Value} {zs : List V} {ws : List Value} (r : Vals vs us) (h : Vals zs ws) : Vals (gVRev vs zs) (gRev us ws) := by
  cases r with
  | nil => exact vals_rev h
  | cons _ _ => exact .nil
theorem tame_txt {z : Str} {w : Nat} (h : PyData.strOk z = true) (hl : z.length ≤ w) : Tame w (.str z) := ⟨by rw [PyData.canLay0]; exact h, by rw [PyData.showable], by rw [PyData.intsShort], by rw [PyData.depth]; decide, by rw [PyData.weight]; exact hl⟩
theorem SameX.keepP {H H' : Hp} {a b : Addr} {N : Nat} {o : HO} (hP : Pot H a N) (s : SameX a H H') (e : H b = some o) (hn : ∀ x y z : Int, o ≠ .lst [.int x, .int y, .int z]) : H' b = some o := s _ _ (fun z => by
  obtain ⟨xx, yy, zz, e', _⟩ := hP.ex
  rw [z, e'] at e
  exact hn _ _ _ (Option.some.inj e).symm) e
theorem kb2 {K : PySem.W.Frag} {fd : FuncData} {ps ks : List Str} (hp : ps.length = 2) (h : ∀ (s : Shared) (a b : Value), BindsTo s fd ⟨[], ks.zip [a, b]⟩ (ps.zip [b, a])) : KBinds K fd ps ks gRev gVRev := by
  refine ⟨fun s us ws _ hl => ?_, rev_rel⟩
  rw [hp] at hl
  cases us with
  | cons u us => cases hl
  | nil =>
    have hl : ws.reverse.length = 2 := hl
    rw [List.length_reverse] at hl
    match ws, hl with
    | [a, b], _ => exact h s a b
def deedD : Deed → PyData
  | .come n ts => .tuple [.str sCome, .str n, .tuple (ts.map PyData.str)]
  | .die n => .tuple [.str sDie, .str n]
def toldD (ds : List Deed) : PyData := .tuple [.str (histText ds), .tuple (ds.map deedD), .tuple ((sortS (liv ds)).map PyData.str), .tuple ((sortS (deadD ds)).map PyData.str), .int (ds.length : Nat)]
theorem depth_strs (zs : List Str) : (PyData.tuple (zs.map PyData.str)).depth ≤ 1 := by
  rw [PyData.depth]
  have := depthAll_le (m := 0) (ds := zs.map PyData.str) fun d hd => by
    obtain ⟨t, _, rfl⟩ := List.mem_map.mp hd
    rw [PyData.depth]; exact Nat.le_refl _
  omega
theorem tame_names {zs : List Str} (nm : ∀ z ∈ zs, Nm z) : Tame (zs.length * 9) (.tuple (zs.map PyData.str)) := by
  have t := (tame_tup (w := 8) (ds := zs.map PyData.str) fun d hd => by
    obtain ⟨z, hz, rfl⟩ := List.mem_map.mp hd
    exact ⟨tame_str (nm z hz), by rw [PyData.depth]; decide⟩).1
  rw [List.length_map] at t
  exact t
theorem tame_word {z : Str} (h : z = sCome ∨ z = sDie) : Tame 8 (.str z) := by
  have hz : PyData.strOk z = true ∧ z.length ≤ 8 := by rcases h with rfl | rfl <;> exact ⟨by decide +kernel, by decide +kernel⟩
  exact tame_txt hz.1 hz.2
theorem depth_deed (e : Deed) : (deedD e).depth ≤ 2 := by
  cases e with
  | come n ts =>
    show (PyData.tuple [.str sCome, .str n, .tuple (ts.map PyData.str)]).depth ≤ 2
    rw [PyData.depth]
    have := depthAll_le (m := 1) (ds := [.str sCome, .str n, .tuple (ts.map PyData.str)]) fun d hd => by
      simp only [List.mem_cons, List.not_mem_nil, or_false] at hd
      rcases hd with rfl | rfl | rfl
      · rw [PyData.depth]; decide
      · rw [PyData.depth]; decide
      · exact depth_strs ts
    omega
  | die n =>
    show (PyData.tuple [.str sDie, .str n]).depth ≤ 2
    rw [PyData.depth]
    have := depthAll_le (m := 0) (ds := [.str sDie, .str n]) fun d hd => by
      simp only [List.mem_cons, List.not_mem_nil, or_false] at hd
      rcases hd with rfl | rfl <;> (rw [PyData.depth]; exact Nat.le_refl _)
    omega
theorem tame_deed {e : Deed} (f : FineD e) (hl : e.ties.length ≤ 40) : Tame 1100 (deedD e) := by
  cases e with
  | come n ts =>
    have hl : ts.length ≤ 40 := hl
    refine ((tame_tup (w := 360) (ds := [.str sCome, .str n, .tuple (ts.map PyData.str)]) fun d hd => ?_).1).mono (by show 3 * 361 ≤ _; decide)
    simp only [List.mem_cons, List.not_mem_nil, or_false] at hd
    rcases hd with rfl | rfl | rfl
    · exact ⟨(tame_word (.inl rfl)).mono (by decide), by rw [PyData.depth]; decide⟩
    · exact ⟨(tame_str f.nm).mono (by decide), by rw [PyData.depth]; decide⟩
    · exact ⟨(tame_names f.ts).mono (by show ts.length * 9 ≤ 360; omega), Nat.le_trans (depth_strs ts) (by decide)⟩
  | die n =>
    refine ((tame_tup (w := 360) (ds := [.str sDie, .str n]) fun d hd => ?_).1).mono (by show 2 * 361 ≤ _; decide)
    simp only [List.mem_cons, List.not_mem_nil, or_false] at hd
    rcases hd with rfl | rfl
    · exact ⟨(tame_word (.inr rfl)).mono (by decide), by rw [PyData.depth]; decide⟩
    · exact ⟨(tame_str f.nm).mono (by decide), by rw [PyData.depth]; decide⟩
theorem small_txt (z : Str) (h : (z.cps.toList.all fun c => decide (c < 0x110000)) = true) : ∀ c ∈ z.cps.toList, c < 0x110000 := fun c hc => of_decide_eq_true (List.all_eq_true.mp h c hc)
theorem FineD.small {e : Deed} (f : FineD e) {c : Nat} (hc : c ∈ (deedLine e).cps.toList) : c < 0x110000 := by
  rcases join_mem hc with h | ⟨p, hp, h⟩
  · exact small_txt sBl (by decide +kernel) c h
  · rcases List.mem_cons.mp hp with rfl | hp
    · cases e with
      | come n ts => exact small_txt sCome (by decide +kernel) c h
      | die n => exact small_txt sDie (by decide +kernel) c h
    · rcases List.mem_cons.mp hp with rfl | hp
      · have := (f.nm.2.2 c h).2; omega
      · have := ((f.ts p hp).2.2 c h).2; omega
theorem hist_strOk {ds : List Deed} (h : Hist ds) (hl : ds.length ≤ 100) : PyData.strOk (histText ds) = true := by
  unfold PyData.strOk
  refine Array.all_eq_true_iff_forall_mem.mpr fun c hc => decide_eq_true ?_
  rcases join_mem (cps_mem hc) with h' | ⟨p, hp, h'⟩
  · exact small_txt sNl (by decide +kernel) c h'
  · obtain ⟨e, he, rfl⟩ := List.mem_map.mp hp
    exact (FineD.of h hl he).small h'
theorem hist_len {ds : List Deed} (h : Hist ds) (hl : ds.length ≤ 40) : (histText ds).length ≤ 50000 := by
  refine Nat.le_trans (join_len _ _) ?_
  have hs := sum_le (ps := ds.map deedLine) (b := 1000) fun p hp => by
    obtain ⟨d, hd, rfl⟩ := List.mem_map.mp hp
    exact (FineD.of h (by omega) hd).len
  have e1 : sNl.length = 1 := by decide +kernel
  rw [List.length_map] at hs ⊢
  rw [e1]
  omega
theorem tame_told {ds : List Deed} (h : Hist ds) (hl : ds.length ≤ 40) : Tame 300000 (toldD ds) := by
  have hll := h.liv_len
  have hdl := dead_len (ds := ds)
  have lvL : (sortS (liv ds)).length = (liv ds).length := (sortS_perm _).length_eq
  have ddL : (sortS (deadD ds)).length = (deadD ds).length := (sortS_perm _).length_eq
  refine ((tame_tup (w := 50000) (ds := [.str (histText ds), .tuple (ds.map deedD), .tuple ((sortS (liv ds)).map PyData.str), .tuple ((sortS (deadD ds)).map PyData.str), .int (ds.length : Nat)]) fun d hd => ?_).1).mono (by show 5 * 50001 ≤ _; decide)
  simp only [List.mem_cons, List.not_mem_nil, or_false] at hd
  rcases hd with rfl | rfl | rfl | rfl | rfl
  · exact ⟨tame_txt (hist_strOk h (by omega)) (hist_len h hl), by rw [PyData.depth]; decide⟩
  · have t := (tame_tup (w := 1100) (ds := ds.map deedD) fun d hd => by
      obtain ⟨e, he, rfl⟩ := List.mem_map.mp hd
      exact ⟨tame_deed (FineD.of h (by omega) he) (by have := (h.each e he).2.1; omega), Nat.le_trans (depth_deed e) (by decide)⟩).1
    rw [List.length_map] at t
    refine ⟨t.mono (by omega), ?_⟩
    rw [PyData.depth]
    have := depthAll_le (m := 2) (ds := ds.map deedD) fun d hd => by
      obtain ⟨e, _, rfl⟩ := List.mem_map.mp hd
      exact depth_deed e
    omega
  · exact ⟨(tame_names fun z hz => h.nm z (h.liv_came z ((sortS_perm _).mem_iff.mp hz))).mono (by omega), Nat.le_trans (depth_strs _) (by decide)⟩
  · exact ⟨(tame_names fun z hz => h.nm z (h.dead_came z ((sortS_perm _).mem_iff.mp hz))).mono (by omega), Nat.le_trans (depth_strs _) (by decide)⟩
  · exact ⟨(tame_int (by omega)).mono (by decide), by rw [PyData.depth]; decide⟩
theorem dp_deed {K : PySem.W.Frag} {H : Hp} {q : Addr} : ∀ {e : Deed}, DeedAt H q e → Dp K H (.ref q) (deedD e)
  | .come n ts, ⟨tq, h1, h2⟩ => .tup (sqt_of h1) (.cons (.str _) (.cons (.str _) (.cons (.tup (sqt_of h2) (strs_dp _)) .nil)))
  | .die n, h => .tup (sqt_of (show H q = some (.tup [.str sDie, .str n]) from h)) (.cons (.str _) (.cons (.str _) .nil))
theorem dp_deeds {K : PySem.W.Frag} {H : Hp} : ∀ {qs : List Addr} {ds : List Deed}, Paired (DeedAt H) qs ds → DpAll K H (qs.map V.ref) (ds.map deedD)
  | _, _, .nil => .nil
  | _, _, .cons a t => .cons (dp_deed a) (dp_deeds t)
theorem dp_told {K : PySem.W.Frag} {H : Hp} {t dp lp ep : Addr} {ds : List Deed} (e : H t = some (.tup [.str (histText ds), .ref dp, .ref lp, .ref ep, .int (ds.length : Nat)])) (h1 : DeedsT H dp ds) (h2 : H lp = some (.tup ((sortS (liv ds)).map V.str))) (h3 : H ep = some (.tup ((sortS (deadD ds)).map V.str))) : Dp K H (.ref t) (toldD ds) := by
  obtain ⟨qs, e1, e2⟩ := h1
  exact .tup (sqt_of e) (.cons (.str _) (.cons (.tup (sqt_of e1) (dp_deeds e2)) (.cons (.tup (sqt_of h2) (strs_dp _)) (.cons (.tup (sqt_of h3) (strs_dp _)) (.cons (.int _) .nil)))))
def spIsTold (C : Addr) : Sp := fun vs H Q _ => ∃ (x l : Addr) (ds : List Deed), vs = [.ref x, .ref l] ∧ HistO C H x ds ∧ DeedsAt H l ds ∧ ds.length ≤ 40 ∧ ∀ H', Same H H' → Q (.bl true) H'
section
variable {P : Program} {w : World} {K : PySem.W.Frag} {mg : Str → Option Value} {base : Heap}
end
end Hw

set_option Elab.async false
set_option linter.all false
set_option maxRecDepth 100000
set_option maxHeartbeats 4000000
namespace Hw
open PySem L2 PyProof.Rows
abbrev sWithin : Stmt := topS 4
abbrev sPair : Stmt := topS 6
def spWithin : Sp := fun vs H Q _ => ∃ v a b : Int, vs = [.int v, .int a, .int b] ∧ Q (.bl (decide (a ≤ v ∧ v ≤ b))) H
section
variable {P : Program} {w : World} {K : PySem.W.Frag} {mg : Str → Option Value} {base : Heap}
theorem scWithin : FnScope ["value", "least", "most"] ["value", "least", "most"] (defScope sWithin) := ⟨rfl, rfl, rfl, by decide +kernel, rfl, by decide +kernel, by decide +kernel⟩
theorem ok_within {f : Addr} {fd : FuncData} {k : Nat} (F : Fun K "is_within" "is_within" sWithin f fd) (B : Blt mg) (bi : mg "isinstance" = none) (bb : mg "bool" = none) : FnOk P w K mg base CX0 (k + 1) f fd ["value", "least", "most"] spWithin := by
  refine F.ok scWithin (fun vs H Q E h => ?_) (fun cdv A outer s H vs Q E hr h => ?_)
  · obtain ⟨v, a, b, rfl, _⟩ := h
    rfl
  · obtain ⟨v, a, b, rfl, q⟩ := h
    refine ⟨_, pss_cons (ps_if (PW.pt (pw_or (pt_not (pt_val (pe_callB call_isi (by rfl) bi PyProof.Rows.boot_isinstance (pa_cons (pv 0) (pa_cons (pe_bltn (v := .ty "int") (by rfl) B.int (by decide +kernel) rfl) pa_nil)))))
        (pw_or1 (pt_val (pe_callB call_isi (by rfl) bi PyProof.Rows.boot_isinstance (pa_cons (pv 0) (pa_cons (pe_bltn (v := .ty "bool") (by rfl) bb (by decide +kernel) rfl) pa_nil))))))) (pss_one (ps_ret pe_bl)) pss_nil)
      (pss_one (ps_ret (pe_chain op_le op_le (pv 1) (pv 0) (pv 2)))), ?_⟩
    refine rs_no ?_
    refine ⟨.int v, rfl, .int v, .ty "int", .type "int", .type "int", true, rfl, .ty _, .base (.int v), kit_ty (by decide +kernel), true, rfl, ?_⟩
    refine ⟨.int v, rfl, .int v, .ty "bool", .type "int", .type "bool", false, rfl, .ty _, .base (.int v), kit_ty (by decide +kernel), false, rfl, ?_⟩
    refine ⟨.int a, rfl, .int v, rfl, a, v, rfl, rfl, decide (a ≤ v), rfl, ?_⟩
    by_cases h1 : a ≤ v
    · rw [decide_eq_true h1]
      refine ⟨.int b, rfl, v, b, rfl, rfl, ?_⟩
      have e : decide (v ≤ b) = decide (a ≤ v ∧ v ≤ b) := by simp [h1]
      show Q (.bl (decide (v ≤ b))) H
      rw [e]; exact q
    · rw [decide_eq_false h1]
      have e : decide (a ≤ v ∧ v ≤ b) = false := decide_eq_false fun z => h1 z.1
      rw [e] at q; exact q
theorem scPair : FnScope ["one", "other"] ["one", "other"] (defScope sPair) := ⟨rfl, rfl, rfl, by decide +kernel, rfl, by decide +kernel, by decide +kernel⟩
theorem ok_pair {f : Addr} {fd : FuncData} {k : Nat} (F : Fun K "pair_of" "pair_of" sPair f fd) : FnOk P w K mg base CX0 (k + 1) f fd ["one", "other"] spTie := by
  refine F.ok scPair (fun vs H Q E h => ?_) (fun cdv A outer s H vs Q E hr h => ?_)
  · obtain ⟨a, b, rfl, _⟩ := h
    rfl
  · obtain ⟨a, b, rfl, q⟩ := h
    refine ⟨_, pss_one (ps_ret (pe_ifExp (pt_cmpR op_lt_str (pv 0) (pv 1) (nomark _)) (pe_tup (pa_cons (pv 0) (pa_cons (pv 1) pa_nil))) (pe_tup (pa_cons (pv 1) (pa_cons (pv 0) pa_nil))))), ?_⟩
    refine ⟨.str a, rfl, .str b, rfl, a, b, rfl, rfl, strLt a b, rfl, ?_⟩
    cases e : strLt a b with
    | true =>
      show if true = true then _ else _
      rw [if_pos rfl]
      refine ⟨.str a, rfl, .str b, rfl, by show 2 ≤ sizeLine; decide, fun p hp => ?_⟩
      have := q p hp
      unfold tieOf at this
      rw [strLt_as e, e] at this
      exact this
    | false =>
      show if false = true then _ else _
      rw [if_neg Bool.false_ne_true]
      refine ⟨.str b, rfl, .str a, rfl, by show 2 ≤ sizeLine; decide, fun p hp => ?_⟩
      have := q p hp
      unfold tieOf at this
      cases e2 : strLt b a with
      | true =>
        rw [e2, e] at this
        exact this
      | false =>
        obtain rfl := strLt_tri e e2
        rw [e2] at this
        exact this
end
end Hw

set_option Elab.async false
set_option linter.all false
set_option maxRecDepth 100000
set_option maxHeartbeats 4000000
namespace Hw
open PySem L2 PyProof.Rows
abbrev sAllPl : Stmt := topS 26
abbrev sAllEl : Stmt := topS 27
theorem Hist.part_perm {ds : List Deed} (h : Hist ds) : (liv ds ++ deadD ds).Perm (cameD ds) := by
  refine (List.perm_ext_iff_of_nodup ?_ h.came_nodup).mpr fun z => ?_
  · rw [List.nodup_append]
    exact ⟨h.liv_nodup, h.dead_nodup, fun x hx y hy e => h.dead_no y hy (e ▸ hx)⟩
  · rw [List.mem_append]
    exact ⟨fun q => q.elim (h.liv_came z) (h.dead_came z), h.came_or z⟩
theorem Hist.sort_parts {ds : List Deed} (h : Hist ds) : sortS (sortS (liv ds) ++ sortS (deadD ds)) = sortS (cameD ds) :=
  sortS_of_perm ((List.Perm.append (sortS_perm _) (sortS_perm _)).trans h.part_perm)
def spAllPl (C : Addr) : Sp := fun vs H Q _ => ∃ (x : Addr) (ds : List Deed), vs = [.ref x] ∧ HistO C H x ds ∧ ∀ p H', Same H H' → H p = none → H' p = some (.tup ((sortS (cameD ds)).map V.str)) → Q (.ref p) H'
def spAllEl (C : Addr) : Sp := fun vs H Q _ => ∃ (x : Addr) (ds : List Deed), vs = [.ref x] ∧ HistO C H x ds ∧ ∀ (p : Addr) (qs : List Addr) H', Same H H' → H p = none → H' p = some (.lst (qs.map V.ref)) → Paired (TieL H') qs (sortP (elderT ds)) → Q (.ref p) H'
theorem liv_le {ds : List Deed} (h : Hist ds) : (sortS (liv ds)).length ≤ ds.length := by rw [(sortS_perm _).length_eq]; exact h.liv_len
theorem dead_le (ds : List Deed) : (sortS (deadD ds)).length ≤ ds.length := by rw [(sortS_perm _).length_eq]; exact dead_len
section
variable {P : Program} {w : World} {K : PySem.W.Frag} {mg : Str → Option Value} {base : Heap}
theorem scAllPl : FnScope ["history"] ["history"] (defScope sAllPl) := ⟨rfl, rfl, rfl, by decide +kernel, rfl, by decide +kernel, by decide +kernel⟩
theorem ok_allpl {f C : Addr} {fd : FuncData} {k : Nat} (F : Fun K "all_places" "all_places" sAllPl f fd) (T : TxtH K mg C) (bs : mg "sorted" = none) (bt : mg "tuple" = none) : FnOk P w K mg base CX0 (k + 1) f fd ["history"] (spAllPl C) := by
  refine F.ok scAllPl (fun vs H Q E h => ?_) (fun cdv A outer s H vs Q E hr h => ?_)
  · obtain ⟨x, ds, rfl, _⟩ := h
    rfl
  · obtain ⟨x, ds, rfl, ⟨⟨dx, dp, lp, ep, fs, h1, h2, h3, h4, h5, h6, h7, h8, h9⟩, hH, hl⟩, q⟩ := h
    have hu64 := hr.units
    refine ⟨_, pss_one (ps_ret (pe_callTy call_tuple_of (by rfl) bt PyProof.Rows.boot_tuple (pa_cons (pe_callB (cr_sortT hu64) (by rfl) bs (by decide +kernel) (pa_cons (pe_lst (StX.pa_star (pe_fld (pv 0) rfl) (StX.pa_star (pe_fld (pv 0) rfl) pa_nil))) pa_nil)) pa_nil))), ?_⟩
    have l1 := liv_le hH
    have l2 := dead_le ds
    have hcl := came_len ds
    refine ⟨.ref x, rfl, x, C, dx, _, _, rfl, h1, T.cl, T.nL, h5, lp, _, rfl, .inl (sqt_of h8), .ref x, rfl, x, C, dx, _, _, rfl, h1, T.cl, T.nE, h6, ep, _, rfl, .inl (sqt_of h9), ?_, fun l nl => ?_⟩
    · rw [List.append_nil, List.length_append, List.length_map, List.length_map]
      exact Nat.le_of_lt (smallM (by omega))
    refine ⟨l, sortS (liv ds) ++ sortS (deadD ds), rfl, sql_of (by rw [upd_same, List.append_nil, List.map_append]), Nat.le_of_lt (smallM (by rw [List.length_append]; omega)), fun p2 n2 => ⟨p2, _, rfl, .inl ⟨sql_of upd_same, fun p3 n3 => ?_⟩⟩⟩
    have s2 := (same_upd (o := .lst ((sortS (liv ds)).map V.str ++ ((sortS (deadD ds)).map V.str ++ []))) nl).trans (same_upd (o := .lst ((sortS (sortS (liv ds) ++ sortS (deadD ds))).map V.str)) n2)
    have s3 := s2.trans (same_upd (o := .tup ((sortS (sortS (liv ds) ++ sortS (deadD ds))).map V.str)) n3)
    refine q p3 _ s3 (s2.free n3) ?_
    rw [upd_same, hH.sort_parts]
theorem scAllEl : FnScope ["history", "pairs", "deed", "tie"] ["history"] (defScope sAllEl) := ⟨rfl, rfl, rfl, by decide +kernel, rfl, by decide +kernel, by decide +kernel⟩
theorem ok_allel {f fP C : Addr} {fd fdP : FuncData} {k : Nat} (F : Fun K "all_elder_ties" "all_elder_ties" sAllEl f fd) (T : TxtH K mg C) (bs : mg "sorted" = none)
    (GP : FnOk P w K mg base CX0 k fP fdP ["one", "other"] spTie) (gP : mg "pair_of" = some (.ref fP)) (kP : PySem.W.keepIn K (.ref fP) = true) (bP : Binds K fdP ["one", "other"] []) : FnOk P w K mg base CX0 (k + 1) f fd ["history"] (spAllEl C) := by
  refine F.ok scAllEl (fun vs H Q E h => ?_) (fun cdv A outer s H vs Q E hr h => ?_)
  · obtain ⟨x, ds, rfl, _⟩ := h
    rfl
  · obtain ⟨x, ds, rfl, ⟨⟨dx, dp, lp, ep, fs, h1, h2, h3, h4, h5, h6, ⟨qs, e1, e2⟩, h8, h9⟩, hH, hl⟩, q⟩ := h
    have hu64 := hr.units
    refine ⟨_, pss_cons (ps_set (i := 1) scAllEl.nd rfl (.inl rfl) (pe_lst pa_nil))
      (pss_cons (ps_for PassesOwn.never rfl (pi_tup (pe_fld (pv 0) rfl)) (pg_name (i := 2) scAllEl.nd rfl (.inl rfl))
        (pss_one (ps_if (pt_cmpR op_eq (pe_ix ix_tup (pv 2) pe_int (fun _ _ => rfl)) pe_str (nomark _))
          (pss_one (ps_for PassesOwn.never rfl (pi_tup (pe_ix ix_tup (pv 2) pe_int (fun _ _ => rfl))) (pg_name (i := 3) scAllEl.nd rfl (.inl rfl))
            (pss_one (ps_expr (pe_bm PySem.F.plainAttrs_list PySem.F.slot_list_append PySem.F.type_list_append mt_append (pv 1) (pa_cons (pe_call GP hr (by rfl) gP kP bP .nil pass0 (pa_cons (pe_ix ix_tup (pv 2) pe_int (fun _ _ => rfl)) (pa_cons (pv 3) pa_nil))) pa_nil)))))) pss_nil)))
      (pss_one (ps_ret (pe_callB (cr_sortTP hu64) (by rfl) bs (by decide +kernel) (pa_cons (pv 1) pa_nil))))), ?_⟩
    refine rs_set ?_
    refine ⟨Nat.zero_le _, fun l nl => ?_⟩
    refine rs_tup dp (qs.map V.ref) (fun Q1 q1 => ⟨.ref x, rfl, x, C, dx, _, _, rfl, (same_upd nl) _ _ h1, T.cl, T.nD, h4, q1⟩) (fun i σ' H' => ∃ o2 o3 ts, σ' = [some (.ref x), some (.ref l), o2, o3] ∧ Same H H' ∧ H' l = some (.lst (ts.map V.ref)) ∧ Paired (TieL H') ts (elderT (ds.take i)))
      ⟨_, _, [], rfl, same_upd nl, upd_same, .nil⟩ (fun i σ' H' _ ⟨_, _, _, _, sx, _⟩ => sqt_of (sx _ _ e1)) ?_ ?_
    · rintro i v σ' H' hx ⟨o2, o3, ts0, rfl, sx, eL, ht⟩
      obtain ⟨qd, hq, rfl⟩ := map_get hx
      obtain ⟨d, hd, ed⟩ := paired_get e2 hq
      have hel := elder_len hH hl i
      have hi := (List.getElem?_eq_some_iff.mp hd).1
      obtain ⟨more, em⟩ := (ed.keep sx).two (K := K)
      have ee : elderT (ds.take (i + 1)) = elderT (ds.take i) ++ d.ties.map fun t => tieOf d.name t := by rw [take_snoc hd, elder_snoc]
      have hev := hH.each d (List.mem_of_getElem? hd)
      refine r_gname ?_
      refine ⟨.ref qd, rfl, qd, _, 0, .str d.word, rfl, rfl, sqt_of em, atI_nat (j := 0) rfl, rfl, _, congrArg V.bl (word_come d), ?_⟩
      cases d with
      | come n ts =>
        obtain ⟨tq, g1, g2⟩ := ed
        have ee : elderT (ds.take (i + 1)) = elderT (ds.take i) ++ ts.map fun t => tieOf n t := ee
        have hts : ts.length ≤ ds.length := hev.2.1
        show if true = true then _ else _
        rw [if_pos rfl]
        refine ⟨.ref qd, rfl, qd, _, 2, .ref tq, rfl, rfl, sqt_of (sx _ _ g1), rfl, tq, rfl, ⟨_, sqt_of (sx _ _ g2)⟩, for_tup (xs := ts.map V.str) (fun j σ' H' => ∃ o3 us, σ' = [some (.ref x), some (.ref l), some (.ref qd), o3] ∧ Same H H' ∧ H' l = some (.lst (us.map V.ref)) ∧ Paired (TieL H') us (elderT (ds.take i) ++ (ts.take j).map fun t => tieOf n t))
          ⟨_, ts0, rfl, sx, eL, by rw [List.take_zero, List.map_nil, List.append_nil]; exact ht⟩ (fun j σ' H' _ ⟨_, _, _, sx, _⟩ => sqt_of (sx _ _ g2)) ?_ ?_⟩
        · rintro j v σ2 H2 hv ⟨o3', us, rfl, s2, eL2, hu2⟩
          obtain ⟨t, htj, rfl⟩ := map_get hv
          have hul : us.length ≤ 20000 := by
            rw [Paired.length hu2, List.length_append, List.length_map, List.length_take]
            omega
          refine r_gname ?_
          refine ⟨.ref l, rfl, .inl ⟨rfl, _, sql_of eL2⟩, .ref qd, rfl, qd, _, 1, .str n, rfl, rfl, sqt_of (s2 _ _ g1), rfl, .str t, rfl, n, t, rfl, fun p np => ?_⟩
          have s3 := same_upd (o := .tup [.str (tieOf n t).1, .str (tieOf n t).2]) np
          have npl : p ≠ l := fun z => by rw [z, eL2] at np; cases np
          refine ⟨l, _, _, rfl, rfl, s3 _ _ eL2, smallM (by rw [List.length_map]; omega), _, us ++ [p], rfl, fun b o e => ?_, by rw [upd_same, List.map_append]; rfl, ?_⟩
          · rw [upd_ne (ne_of_none e nl)]; exact s3 _ _ (s2 _ _ e)
          · rw [take_snoc htj, List.map_append, ← List.append_assoc]
            refine paired_snoc ?_ (paired_mono (fun q t e => ?_) hu2)
            · show (upd _ l _) p = _
              rw [upd_ne npl, upd_same]
            · have e : H2 q = _ := e
              show (upd _ l _) q = _
              rw [upd_ne (fun z => by rw [z, eL2] at e; cases e)]
              exact s3 _ _ e
        · rintro σ2 H2 ⟨o3', us, rfl, s2, eL2, hu2⟩
          rw [List.length_map, List.take_length, ← ee] at hu2
          exact ⟨_, _, us, rfl, s2, eL2, hu2⟩
      | die n =>
        show if false = true then _ else _
        rw [if_neg Bool.false_ne_true]
        refine ⟨_, _, ts0, rfl, sx, eL, ?_⟩
        rw [ee]
        show Paired _ _ (_ ++ [])
        rw [List.append_nil]
        exact ht
    · rintro σ' H' ⟨o2, o3, ts0, rfl, sx, eL, ht⟩
      have el : (qs.map V.ref).length = ds.length := by rw [List.length_map]; exact Paired.length e2
      have hel := elder_len hH hl ds.length
      rw [el, List.take_length] at ht
      rw [List.take_length] at hel
      refine ⟨.ref l, rfl, l, ts0, elderT ds, rfl, sql_of eL, paired_mono (fun q t e => sqt_of e) ht, Nat.le_of_lt (smallM (by omega)), fun p2 qs' n2 hq => ?_⟩
      have s2 := same_upd (o := .lst (qs'.map V.ref)) n2
      exact q p2 qs' _ (sx.trans s2) (sx.free n2) upd_same (hq _ (paired_mono (fun q t e => s2 _ _ e) ht))
end
end Hw

set_option Elab.async false
set_option linter.all false
set_option maxRecDepth 100000
set_option maxHeartbeats 4000000
namespace Hw
open PySem L2 PyProof.Rows
abbrev sElTies : Stmt := topS 28
abbrev sFirst : Stmt := topS 25
abbrev sIsWoodH : Stmt := topS 29
abbrev sFig : Stmt := topS 30
abbrev sLFig : Stmt := topS 48
theorem tieOf_mem (n t z : Str) : (z = (tieOf n t).1 ∨ z = (tieOf n t).2) ↔ (z = n ∨ z = t) := by
  unfold tieOf
  cases e : strLt t n with
  | true =>
    rw [strLt_as e]
    simp [or_comm]
  | false =>
    cases e2 : strLt n t with
    | true => simp
    | false =>
      obtain rfl := strLt_tri e2 e
      simp
theorem Hist.elder_came {ds : List Deed} (h : Hist ds) : ∀ t ∈ elderT ds, t.1 ∈ cameD ds ∧ t.2 ∈ cameD ds := by
  induction h with
  | nil => intro t ht; cases ht
  | @come ds n ts h nm new asc sub ih =>
    intro t ht
    rw [elder_snoc] at ht
    rw [came_snoc]
    have sl : ∀ z, z ∈ cameD ds → z ∈ cameD ds ++ (if (Deed.come n ts).isCome = true then [(Deed.come n ts).name] else []) := fun z hz => List.mem_append_left _ hz
    rcases List.mem_append.mp ht with ht | ht
    · exact ⟨sl _ (ih t ht).1, sl _ (ih t ht).2⟩
    · obtain ⟨u, hu, rfl⟩ := List.mem_map.mp ht
      have hu' : u ∈ cameD ds := h.liv_came u (sub u hu)
      have key : ∀ z, z = n ∨ z = u → z ∈ cameD ds ++ (if (Deed.come n ts).isCome = true then [(Deed.come n ts).name] else []) := fun z hz => by
        rcases hz with rfl | rfl
        · exact List.mem_append_right _ List.mem_cons_self
        · exact sl _ hu'
      exact ⟨key _ ((tieOf_mem n u _).mp (.inl rfl)), key _ ((tieOf_mem n u _).mp (.inr rfl))⟩
  | @die ds n h lv ih =>
    intro t ht
    rw [elder_snoc] at ht
    rw [came_snoc]
    rcases List.mem_append.mp ht with ht | ht
    · exact ⟨List.mem_append_left _ (ih t ht).1, List.mem_append_left _ (ih t ht).2⟩
    · cases ht
def hasN (z : Str) (t : Tie) : Bool := decide (z = t.1 ∨ z = t.2)
theorem count_one {z : Str} : ∀ {ts : List Str}, ts.Nodup → (ts.filter fun t => decide (z = t)).length = if z ∈ ts then 1 else 0
  | [], _ => rfl
  | t :: ts, h => by
    obtain ⟨h1, h2⟩ := List.nodup_cons.mp h
    have ih := count_one (z := z) h2
    by_cases e : z = t
    · subst e
      rw [List.filter_cons_of_pos (by simp), List.length_cons, ih, if_neg h1, if_pos List.mem_cons_self]
    · rw [List.filter_cons_of_neg (by simpa using e), ih]
      simp [e]
theorem Hist.cnt_elder {ds : List Deed} (h : Hist ds) (z : Str) : ((elderT ds).filter (hasN z)).length = if z ∈ cameD ds then cntD ds z else 0 := by
  induction h with
  | nil => rfl
  | @come ds n ts h nm new asc sub ih =>
    rw [elder_snoc, List.filter_append, List.length_append, ih, cnt_snoc, came_snoc]
    show _ = if z ∈ cameD ds ++ [n] then (if z = n then ts.length else cntD ds z) + (if z ∈ ts then 1 else 0) else 0
    have e1 : (((Deed.come n ts).ties.map fun t => tieOf (Deed.come n ts).name t).filter (hasN z)).length = (ts.filter fun t => decide (z = n ∨ z = t)).length := by
      show ((ts.map fun t => tieOf n t).filter (hasN z)).length = _
      rw [List.filter_map, List.length_map]
      refine congrArg List.length (List.filter_congr fun t _ => ?_)
      show decide _ = _
      rw [decide_eq_decide]
      exact tieOf_mem n t z
    rw [e1]
    by_cases hz : z = n
    · subst hz
      have hn : z ∉ ts := fun m => new (h.liv_came _ (sub _ m))
      rw [if_neg new, if_pos (List.mem_append_right _ List.mem_cons_self), if_pos rfl, if_neg hn]
      simp
    · have e2 : (ts.filter fun t => decide (z = n ∨ z = t)) = ts.filter fun t => decide (z = t) := List.filter_congr fun t _ => by simp [hz]
      rw [e2, count_one asc.nodup]
      by_cases hc : z ∈ cameD ds
      · rw [if_pos hc, if_pos (List.mem_append_left _ hc), if_neg hz]
      · have hn : z ∉ ts := fun m => hc (h.liv_came _ (sub _ m))
        have hc2 : z ∉ cameD ds ++ [n] := fun m => by
          rcases List.mem_append.mp m with m | m
          · exact hc m
          · exact hz (List.mem_singleton.mp m)
        rw [if_neg hc, if_neg hn, if_neg hc2]
  | @die ds n h lv ih =>
    have ec : cameD (ds ++ [Deed.die n]) = cameD ds := by rw [came_snoc]; exact List.append_nil _
    rw [elder_snoc, List.filter_append, List.length_append, ih, cnt_snoc, ec]; rfl
theorem cnt_sorted {ds : List Deed} (h : Hist ds) {z : Str} (hz : z ∈ cameD ds) : ((sortP (elderT ds)).filter (hasN z)).length = cntD ds z := by
  rw [((sortP_perm (elderT ds)).filter (hasN z)).length_eq, h.cnt_elder, if_pos hz]
theorem slA_use {K : PySem.W.Frag} {H : Hp} {a : Addr} {xs : List V} {m : Nat} {Q : VK} (e : SqT K H a xs) (q : ∀ p H', Same H H' → SqT K H' p (xs.take m) → Q (.ref p) H') : rSlA K (.ref a) none (some (m : Int)) H Q := by
  refine ⟨a, xs, rfl, e, fun hw => ?_, fun _ p np => ?_⟩
  · have h2 := hw.2
    rw [HT.sIx_nat] at h2
    refine q a H (Same.refl H) ?_
    rw [List.take_of_length_le (by omega)]
    exact e
  · refine q p _ (same_upd np) ?_
    rw [cut_to]
    exact sqt_of upd_same
def spElTies (C : Addr) : Sp := fun vs H Q _ => ∃ (x : Addr) (z : Str) (ds : List Deed), vs = [.ref x, .str z] ∧ HistO C H x ds ∧ z ∈ cameD ds ∧ ∀ H', Same H H' → Q (.int (cntD ds z : Nat)) H'
def spFirst (C : Addr) : Sp := fun vs H Q _ => ∃ (x : Addr) (m : Nat) (ds : List Deed), vs = [.ref x, .int m] ∧ HistO C H x ds ∧ m ≤ ds.length ∧ ∀ y H', HistO C H' y (ds.take m) → Same H H' → H y = none → Q (.ref y) H'
def isWoodD (ds : List Deed) : Bool := (ds.map fun d => decide (d.ties.length ≤ 1)).all id
def spIsWoodH (C : Addr) : Sp := fun vs H Q _ => ∃ (x : Addr) (ds : List Deed), vs = [.ref x] ∧ HistO C H x ds ∧ ∀ H', Same H H' → Q (.bl (isWoodD ds)) H'
def spFig : Sp := fun vs H Q _ => ∃ n : Nat, vs = [.int n] ∧ n ≤ 1000000 ∧ Q (.int (Builtin.Int.intBits (n : Int) : Nat)) H
section
variable {P : Program} {w : World} {K : PySem.W.Frag} {mg : Str → Option Value} {base : Heap}
theorem scElTies : FnScope ["history", "name", "pair"] ["history", "name"] (defScope sElTies) := ⟨rfl, rfl, rfl, by decide +kernel, rfl, by decide +kernel, by decide +kernel⟩
theorem ok_elties {f fA fE C : Addr} {fd fdA fdE : FuncData} {k : Nat} (F : Fun K "elder_ties" "elder_ties" sElTies f fd) (B : Blt mg)
    (GA : FnOk P w K mg base CX0 k fA fdA ["history"] (spAllPl C)) (gA : mg "all_places" = some (.ref fA)) (kA : PySem.W.keepIn K (.ref fA) = true) (bA : Binds K fdA ["history"] [])
    (GE : FnOk P w K mg base CX0 k fE fdE ["history"] (spAllEl C)) (gE : mg "all_elder_ties" = some (.ref fE)) (kE : PySem.W.keepIn K (.ref fE) = true) (bE : Binds K fdE ["history"] []) :
    FnOk P w K mg base CX0 (k + 1) f fd ["history", "name"] (spElTies C) := by
  refine F.ok scElTies (fun vs H Q E h => ?_) (fun cdv A outer s H vs Q E hr h => ?_)
  · obtain ⟨x, z, ds, rfl, _⟩ := h
    rfl
  · obtain ⟨x, z, ds, rfl, wb, hz, q⟩ := h
    refine ⟨_, pss_cons (ps_if (pt_cmpR op_notIn_seq (pv 1) (pe_call GA hr (by rfl) gA kA bA .nil pass0 (pa_cons (pv 0) pa_nil)) (by rfl)) (pss_one ps_never) pss_nil)
      (pss_one (ps_ret (pe_callB call_len_seq (by rfl) B.len PySem.boot_len (pa_cons (pe_lc (own := [("pair", 2)]) (g := gName 2) (tt := tTest (tOp (rIn K false) (tVar 1) (tVar 2))) (te := tVar 2) rfl scElTies.nd (pi_list (pe_call GE hr (by rfl) gE kE bE .nil pass0 (pa_cons (pv 0) pa_nil)))
        (blkOk_by (N := ["history", "name", "pair"]) (sc := defScope sElTies) (by decide +kernel)) (fun _ _ _ _ _ => pg_name (i := 2) scElTies.nd rfl (Or.inl rfl))
        (fun _ _ _ _ _ => pts_one (pt_cmpR op_in_seq (pv 1) (pv 2) (by rfl))) (fun _ _ _ _ _ => pv 2)) pa_nil)))), ?_⟩
    have hH := wb.hist
    have hl := wb.few
    refine rs_no ?_
    refine ⟨.str z, rfl, .ref x, rfl, x, ds, rfl, wb, fun p H1 s1 np ep => ?_⟩
    have hin : inV (.str z) ((sortS (cameD ds)).map V.str) = true := by
      rw [inV_str]
      exact decide_eq_true ((sortS_perm _).mem_iff.mpr hz)
    refine ⟨p, _, rfl, .inr (sqt_of ep), rfl, List.all_eq_true.mpr fun v hv => (by obtain ⟨y, _, rfl⟩ := List.mem_map.mp hv; rfl), false, ?_, ?_⟩
    · rw [hin]; rfl
    show if false = true then _ else _
    rw [if_neg Bool.false_ne_true]
    have wb1 := wb.keep s1
    refine ⟨.ref x, rfl, x, ds, rfl, wb1, fun l qs H2 s2 nl el hp => ⟨l, rfl, ⟨_, sql_of el⟩, fun D nD => ?_⟩⟩
    have hel := elder_len hH hl ds.length
    rw [List.take_length] at hel
    have hql : qs.length = (elderT ds).length := by rw [Paired.length hp, (sortP_perm _).length_eq]
    refine lc_list (xs := qs.map V.ref) (fun i H' => Same H2 H' ∧ ∃ ys : List V, H' D = some (.lst ys) ∧ ys.length = (((sortP (elderT ds)).take i).filter (hasN z)).length) ⟨same_upd nD, [], upd_same, rfl⟩ (fun i H' _ h => sql_of (h.1 _ _ el)) ?_ ?_
    · rintro i v H' hx ⟨sx, ys, eD, hy⟩
      obtain ⟨qd, hq, rfl⟩ := map_get hx
      obtain ⟨t, ht, et⟩ := paired_get hp hq
      have et : H2 qd = some (.tup [.str t.1, .str t.2]) := et
      have ft : (((sortP (elderT ds)).take (i + 1)).filter (hasN z)).length = (((sortP (elderT ds)).take i).filter (hasN z)).length + if hasN z t = true then 1 else 0 := by
        rw [filter_snoc ht, List.length_append]
        split <;> rfl
      have hyl : ys.length ≤ (elderT ds).length := by
        rw [hy]
        refine Nat.le_trans (List.length_filter_le _ _) ?_
        rw [List.length_take, (sortP_perm _).length_eq]; omega
      refine ⟨rfl, .str z, rfl, .ref qd, rfl, qd, [.str t.1, .str t.2], rfl, .inr (sqt_of (sx _ _ et)), rfl, rfl, hasN z t, ?_, ?_⟩
      · show V.bl (inV (.str z) ([t.1, t.2].map V.str)) = _
        rw [inV_str]
        refine congrArg V.bl ?_
        unfold hasN
        rw [decide_eq_decide]
        simp
      cases hb : hasN z t with
      | true =>
        show if true = true then _ else _
        rw [if_pos rfl]
        refine ⟨.ref qd, rfl, _, eD, smallM (by omega), fun b o e => ?_, _, upd_same, ?_⟩
        · rw [upd_ne (ne_of_none e nD)]; exact sx _ _ e
        · rw [List.length_append, hy, ft, hb, if_pos rfl]; rfl
      | false =>
        show if false = true then _ else _
        rw [if_neg Bool.false_ne_true]
        exact ⟨sx, ys, eD, by rw [ft, hb, if_neg Bool.false_ne_true]; exact hy⟩
    · rintro H' ⟨sx, ys, eD, hy⟩
      refine ⟨D, ys, rfl, .inl (sql_of eD), ?_⟩
      have e0 : ys.length = cntD ds z := by
        rw [hy, List.length_map, hql, ← (sortP_perm (elderT ds)).length_eq, List.take_length]
        exact cnt_sorted hH hz
      rw [e0]
      exact q _ ((s1.trans s2).trans sx)
theorem scFirst : FnScope ["history", "many", "deed"] ["history", "many"] (defScope sFirst) := ⟨rfl, rfl, rfl, by decide +kernel, rfl, by decide +kernel, by decide +kernel⟩
theorem ok_first {f fW fO fI fZ C : Addr} {fd fdW fdO fdI fdZ : FuncData} {k j : Nat} (hj : j + 1 ≤ k) (F : Fun K "first_deeds" "first_deeds" sFirst f fd) (B : Blt mg) (T : TxtH K mg C) (M : Mk K C fI)
    (GW : FnOk P w K mg base CX0 k fW fdW ["value", "least", "most"] spWithin) (gW : mg "is_within" = some (.ref fW)) (kW : PySem.W.keepIn K (.ref fW) = true) (bW : Binds K fdW ["value", "least", "most"] [])
    (GO : FnOk P w K mg base CX0 k fO fdO ["deed"] spLineOf) (gO : mg "line_of" = some (.ref fO)) (kO : PySem.W.keepIn K (.ref fO) = true) (bO : Binds K fdO ["deed"] [])
    (GI : FnOk P w K mg base CX0 j fI fdI ["self", "text"] (spInitH C)) (bI : Binds K fdI ["self", "text"] [])
    (ML : Meth K C "__len__" fZ) (GZ : FnOk P w K mg base CX0 j fZ fdZ ["self"] (spLenH C)) (bZ : Binds K fdZ ["self"] []) :
    FnOk P w K mg base CX0 (k + 1) f fd ["history", "many"] (spFirst C) := by
  refine F.ok scFirst (fun vs H Q E h => ?_) (fun cdv A outer s H vs Q E hr h => ?_)
  · obtain ⟨x, m, ds, rfl, _⟩ := h
    rfl
  · obtain ⟨x, m, ds, rfl, wb, hm, q⟩ := h
    have hrj := hr.mono hj
    refine ⟨_, pss_cons (ps_if (pt_not (pt_val (pe_call GW hr (by rfl) gW kW bW .nil pass0 (pa_cons (pv 1) (pa_cons pe_int (pa_cons (pe_callB (call_lenU GZ bZ pass0 ML.at_ ML.fn hrj) (by rfl) B.len PySem.boot_len (pa_cons (pv 0) pa_nil)) pa_nil)))))) (pss_one ps_never) pss_nil)
      (pss_one (ps_ret (pe_make M GI hrj (by rfl) T.mH bI .nil pass0 (pa_cons (pe_join pe_str (pe_lc (own := [("deed", 2)]) (g := gName 2) (tt := tYes) (te := tCall spLineOf [] E0 (tCons (tVar 2) tNil)) rfl scFirst.nd (pi_tup (pe_slice sl_tupA (pe_fld (pv 0) rfl) po_none (po_some (pv 1))))
        (blkOk_by (N := ["history", "many", "deed"]) (sc := defScope sFirst) (by decide +kernel)) (fun _ _ _ _ _ => pg_name (i := 2) scFirst.nd rfl (Or.inl rfl)) (fun _ _ _ _ _ => pts_nil)
        (fun _ _ _ _ _ => pe_call GO hr (by rfl) gO kO bO .nil pass0 (pa_cons (pv 2) pa_nil)))) pa_nil)))), ?_⟩
    obtain ⟨⟨dx, dp, lp, ep, fs, h1, h2, h3, h4, h5, h6, ⟨qs, e1, e2⟩, h8, h9⟩, hH, hl⟩ := id wb
    refine rs_no ?_
    refine ⟨.int m, rfl, .ref x, rfl, x, dx, _, rfl, h1, x, ds, rfl, wb, ds.length, rfl, by omega, (m : Int), 0, (ds.length : Nat), rfl, ?_⟩
    rw [decide_eq_true ⟨by omega, by omega⟩]
    refine ⟨true, rfl, ?_⟩
    show if (!true) = true then _ else _
    rw [if_neg (by decide)]
    refine ⟨⟨_, rfl⟩, .ref x, rfl, x, C, dx, _, _, rfl, h1, T.cl, T.nD, h4, .int m, rfl, m, rfl, slA_use (sqt_of e1) fun c H1 s1 ec => ⟨c, rfl, ⟨_, ec⟩, fun D nD => ?_⟩⟩
    rw [← List.map_take] at ec
    refine lc_tup (xs := (qs.take m).map V.ref) (fun i H' => Same H1 H' ∧ H' D = some (.lst (((ds.take i).map deedLine).map V.str))) ⟨same_upd nD, upd_same⟩ (fun i H' _ h => sqT_same ec h.1) ?_ ?_
    · rintro i v H' hx ⟨sx, eD⟩
      obtain ⟨qd, hq, rfl⟩ := map_get hx
      rw [List.getElem?_take] at hq
      split at hq
      · rename_i him
        obtain ⟨d, hd, ed⟩ := paired_get e2 hq
        have fe := FineD.of hH hl (List.mem_of_getElem? hd)
        refine ⟨rfl, r_yes ?_⟩
        refine ⟨.ref qd, rfl, qd, d, rfl, ed.keep (s1.trans sx), fe, fun H2 s2 => ⟨_, s2 _ _ eD, smallM (by rw [List.length_map, List.length_map, List.length_take]; omega), fun b o e => ?_, ?_⟩⟩
        · rw [upd_ne (ne_of_none e nD)]; exact s2 _ _ (sx _ _ e)
        · rw [upd_same, take_snoc hd, List.map_append, List.map_append]; rfl
      · cases hq
    · rintro H' ⟨sx, eD⟩
      have el : ((qs.take m).map V.ref).length = m := by rw [List.length_map, List.length_take, Paired.length e2]; omega
      rw [el] at eD
      have hsum := hist_sum (hH.take m) (by rw [List.length_take]; omega)
      refine ⟨Str.ofString "\n", D, (ds.take m).map deedLine, rfl, rfl, .inl (sql_of eD), Nat.le_trans hsum (by decide), ?_⟩
      intro y dy ny ndy ndyy
      refine ⟨y, dy, ds.take m, rfl, hH.take m, by rw [List.length_take]; omega, upd_same, fun H4 wb4 s4 => ⟨rfl, ?_⟩⟩
      have s14 : Same H' H4 := fun b o eb => by
        have n1 := ne_of_none eb ny
        have n2 := ne_of_none eb ndy
        refine s4 _ _ n1 ?_
        rw [upd_ne n1, upd_ne n2]; exact eb
      exact q y H4 wb4 ((s1.trans sx).trans s14) ((s1.trans sx).free ny)
theorem scIsWoodH : FnScope ["history", "deed"] ["history"] (defScope sIsWoodH) := ⟨rfl, rfl, rfl, by decide +kernel, rfl, by decide +kernel, by decide +kernel⟩
theorem ok_iswoodh {f C : Addr} {fd : FuncData} {k : Nat} (F : Fun K "is_wood_history" "is_wood_history" sIsWoodH f fd) (B : Blt mg) (T : TxtH K mg C) (ba : mg "all" = none) : FnOk P w K mg base CX0 (k + 1) f fd ["history"] (spIsWoodH C) := by
  refine F.ok scIsWoodH (fun vs H Q E h => ?_) (fun cdv A outer s H vs Q E hr h => ?_)
  · obtain ⟨x, ds, rfl, _⟩ := h
    rfl
  · obtain ⟨x, ds, rfl, ⟨⟨dx, dp, lp, ep, fs, h1, h2, h3, h4, h5, h6, ⟨qs, e1, e2⟩, h8, h9⟩, hH, hl⟩, q⟩ := h
    refine ⟨_, pss_one (ps_ret (pe_callB (cr_all rfl) (by rfl) ba PyProof.Rows.boot_all (pa_cons (pe_lc (own := [("deed", 1)]) (g := gName 1) (tt := tYes) rfl scIsWoodH.nd (pi_tup (pe_fld (pv 0) rfl))
        (blkOk_by (N := ["history", "deed"]) (sc := defScope sIsWoodH) (by decide +kernel)) (fun _ _ _ _ _ => pg_name (i := 1) scIsWoodH.nd rfl (Or.inl rfl)) (fun _ _ _ _ _ => pts_nil)
        (fun _ _ _ _ _ => pe_or (pe_cmpR op_eq (pe_ix (r := rIxT K) ix_tup (pv 1) pe_int (fun _ _ => rfl)) pe_str (nomark _)) (pe_one (pe_cmpR op_le (pe_callB (r := rLenS K) call_len_seq (by rfl) B.len PySem.boot_len (pa_cons (pe_ix (r := rIxT K) ix_tup (pv 1) pe_int (fun _ _ => rfl)) pa_nil)) pe_int (nomark _))))) pa_nil))), ?_⟩
    refine ⟨.ref x, rfl, x, C, dx, _, _, rfl, h1, T.cl, T.nD, h4, dp, rfl, ⟨_, sqt_of e1⟩, fun D nD => lc_tup (xs := qs.map V.ref) (fun i H' => Same H H' ∧ H' D = some (.lst (((ds.take i).map fun d => decide (d.ties.length ≤ 1)).map V.bl))) ⟨same_upd nD, upd_same⟩ (fun i H' _ h => sqt_of (h.1 _ _ e1)) ?_ ?_⟩
    · rintro i v H' hx ⟨sx, eD⟩
      obtain ⟨qd, hq, rfl⟩ := map_get hx
      obtain ⟨d, hd, ed⟩ := paired_get e2 hq
      obtain ⟨more, em⟩ := (ed.keep sx).two (K := K)
      have fin : ∃ acc, H' D = some (.lst acc) ∧ acc.length < sizeLine ∧ (Same H (upd H' D (.lst (acc ++ [.bl (decide (d.ties.length ≤ 1))]))) ∧ (upd H' D (.lst (acc ++ [.bl (decide (d.ties.length ≤ 1))]))) D = some (.lst (((ds.take (i + 1)).map fun d => decide (d.ties.length ≤ 1)).map V.bl))) := by
        refine ⟨_, eD, smallM (by rw [List.length_map, List.length_map, List.length_take]; omega), fun b o e => ?_, ?_⟩
        · rw [upd_ne (ne_of_none e nD)]; exact sx _ _ e
        · rw [upd_same, take_snoc hd, List.map_append, List.map_append]; rfl
      refine ⟨rfl, r_yes ?_⟩
      refine ⟨.ref qd, rfl, qd, _, 0, .str d.word, rfl, rfl, sqt_of em, atI_nat (j := 0) rfl, rfl, _, congrArg V.bl (word_die d), ?_⟩
      cases d with
      | come n ts =>
        obtain ⟨tq, g1, g2⟩ := ed
        refine ⟨.ref qd, rfl, qd, _, 2, .ref tq, rfl, rfl, sqt_of (sx _ _ g1), rfl, tq, ts.map V.str, rfl, .inr (sqt_of (sx _ _ g2)), _, _, rfl, rfl, ?_⟩
        have e0 : decide (((ts.map V.str).length : Int) ≤ 1) = decide ((Deed.come n ts).ties.length ≤ 1) := by
          rw [decide_eq_decide, List.length_map]
          show (ts.length : Int) ≤ 1 ↔ ts.length ≤ 1
          omega
        rw [← e0] at fin
        exact fin
      | die n => exact fin
    · rintro H' ⟨sx, eD⟩
      rw [List.length_map, Paired.length e2, List.take_length] at eD
      exact ⟨D, _, rfl, sql_of eD, q _ sx⟩
theorem scFig : FnScope ["number"] ["number"] (defScope sFig) := ⟨rfl, rfl, rfl, by decide +kernel, rfl, by decide +kernel, by decide +kernel⟩
theorem ok_fig {f fW : Addr} {fd fdW : FuncData} {k : Nat} (F : Fun K "figures" "figures" sFig f fd) (hM : ∃ t, mg "MOST_FIGURED" = some (.int 1000000 t))
    (GW : FnOk P w K mg base CX0 k fW fdW ["value", "least", "most"] spWithin) (gW : mg "is_within" = some (.ref fW)) (kW : PySem.W.keepIn K (.ref fW) = true) (bW : Binds K fdW ["value", "least", "most"] []) :
    FnOk P w K mg base CX0 (k + 1) f fd ["number"] spFig := by
  refine F.ok scFig (fun vs H Q E h => ?_) (fun cdv A outer s H vs Q E hr h => ?_)
  · obtain ⟨n, rfl, _⟩ := h
    rfl
  · obtain ⟨n, rfl, hn, q⟩ := h
    obtain ⟨t, gM⟩ := hM
    refine ⟨_, pss_cons (ps_if (pt_not (pt_val (pe_call GW hr (by rfl) gW kW bW .nil pass0 (pa_cons (pv 0) (pa_cons pe_int (pa_cons (pe_glob (v := .int 1000000) (by rfl) gM ⟨_, rfl⟩) pa_nil)))))) (pss_one ps_never) pss_nil)
      (pss_one (ps_ret (pe_bits (pv 0)))), ?_⟩
    refine rs_no ?_
    refine ⟨.int n, rfl, (n : Int), 0, 1000000, rfl, ?_⟩
    rw [decide_eq_true ⟨by omega, by omega⟩]
    refine ⟨true, rfl, ?_⟩
    show if (!true) = true then _ else _
    rw [if_neg (by decide)]
    exact ⟨.int n, rfl, n, rfl, q⟩
theorem bits_half {n : Nat} (h : 0 < n) : Builtin.Int.intBits (n : Int) = Builtin.Int.intBits ((n / 2 : Nat) : Int) + 1 := by
  unfold Builtin.Int.intBits
  have e1 : ((n : Int) == 0) = false := by simp; omega
  rw [e1, if_neg Bool.false_ne_true, Int.natAbs_natCast, Int.natAbs_natCast]
  by_cases h2 : n / 2 = 0
  · have : n = 1 := by omega
    subst this
    decide
  · have e2 : (((n / 2 : Nat) : Int) == 0) = false := by simp; omega
    rw [e2, if_neg Bool.false_ne_true]
    have : n.log2 = (n / 2).log2 + 1 := by
      rw [Nat.log2_def, if_pos (by omega)]
    omega
theorem scLFig : FnScope ["number", "many", "rest"] ["number"] (defScope sLFig) := ⟨rfl, rfl, rfl, by decide +kernel, rfl, by decide +kernel, by decide +kernel⟩
theorem ok_lfig {f : Addr} {fd : FuncData} {k : Nat} (F : Fun K "_law_figures" "_law_figures" sLFig f fd) (B : Blt mg) : FnOk P w K mg base CX0 (k + 1) f fd ["number"] spFig := by
  refine F.ok scLFig (fun vs H Q E h => ?_) (fun cdv A outer s H vs Q E hr h => ?_)
  · obtain ⟨n, rfl, _⟩ := h
    rfl
  · obtain ⟨n, rfl, hn, q⟩ := h
    refine ⟨_, pss_cons (ps_par (i := 1) (j := 2) rfl scLFig.nd rfl rfl (by decide) rfl rfl (pa_cons pe_int (pa_cons (pe_callTy call_int1 (by rfl) B.int PyProof.Rows.boot_int (pa_cons (pv 0) pa_nil)) pa_nil)) rfl)
      (pss_cons (ps_while PassesOwn.never (pt_cmpR op_gt (pv 2) pe_int (nomark _))
        (pss_one (ps_par (i := 1) (j := 2) rfl scLFig.nd rfl rfl (by decide) rfl rfl (pa_cons (pe_op op_add (pv 1) pe_int) (pa_cons (pe_op op_fdiv (pv 2) pe_int) pa_nil)) rfl)))
      (pss_one (ps_ret (pv 1)))), ?_⟩
    refine rs_par ?_
    refine ⟨.int n, rfl, .inl ⟨_, rfl, _, _, rfl, ?_⟩⟩
    refine ⟨fun m σ' H' => ∃ c r : Nat, σ' = [some (.int n), some (.int (c : Nat)), some (.int (r : Nat))] ∧ H' = H ∧ m = r ∧ c + Builtin.Int.intBits (r : Int) = Builtin.Int.intBits (n : Int), ⟨n, 0, n, rfl, rfl, rfl, by omega⟩, ?_⟩
    rintro m σ' H' ⟨c, r, rfl, rfl, hm, hc⟩
    refine ⟨.int r, rfl, r, 0, rfl, rfl, decide ((r : Int) > 0), rfl, ?_⟩
    by_cases h0 : 0 < r
    · rw [decide_eq_true (by omega)]
      show if true = true then _ else _
      rw [if_pos rfl]
      refine ⟨fun σ'' H'' => ∃ c r' : Nat, r' < r ∧ σ'' = [some (.int n), some (.int (c : Nat)), some (.int (r' : Nat))] ∧ H'' = H' ∧ c + Builtin.Int.intBits (r' : Int) = Builtin.Int.intBits (n : Int), fun σ'' H'' ⟨c', r', hlt, e1, e2, e3⟩ => ⟨r', by omega, c', r', e1, e2, rfl, e3⟩, ?_⟩
      refine ⟨.int c, rfl, (c : Int), 1, rfl, rfl, .int r, rfl, (r : Int), 2, rfl, rfl, ⟨by decide, by decide⟩, _, _, rfl, c + 1, r / 2, by omega, ?_, rfl, ?_⟩
      · have e1 : ((c : Int) + 1) = ((c + 1 : Nat) : Int) := by omega
        have e2 : ((r : Int) / 2) = ((r / 2 : Nat) : Int) := by omega
        show [some (V.int n), some (V.int ((c : Int) + 1)), some (V.int ((r : Int) / 2))] = _
        rw [e1, e2]
      · have := bits_half h0
        omega
    · rw [decide_eq_false (by omega)]
      show if false = true then _ else _
      rw [if_neg Bool.false_ne_true]
      obtain rfl : r = 0 := by omega
      refine ⟨.int c, rfl, ?_⟩
      have e0 : Builtin.Int.intBits ((0 : Nat) : Int) = 0 := by decide
      rw [show c = Builtin.Int.intBits (n : Int) by omega]
      exact q
end
end Hw

set_option Elab.async false
set_option linter.all false
set_option maxRecDepth 100000
set_option maxHeartbeats 4000000
namespace Hw
open PySem L2 PyProof.Rows
theorem nf_same {K : PySem.W.Frag} {C : Addr} : PySem.W.notFirst K C (.ref C) = true := by
  unfold PySem.W.notFirst
  simp
/-- for k in d, d's items standing still -/
theorem rs_lockKeys {te : TE} {tb u : TS} {j : Nat} {D : Ends} {σ : L2.St} {H : Hp} (d : Addr) (kvs : List (Key × V)) (hd : H d = some (.dK kvs)) (ha : ∀ H' (Q : VK), Q (.ref d) H' → te σ H' Q)
    (Pv : Nat → L2.St → Hp → Prop) (h0 : ∀ H1, SameX d H H1 → Pv 0 σ H1)
    (hs : ∀ od i k v σ' H', kvs[i]? = some (k, v) → H' d = some (.frz od (.dK kvs)) → Pv i σ' H' → ∀ D' : Ends, (∀ σ3 H3, H3 d = some (.frz od (.dK kvs)) → Pv (i + 1) σ3 H3 → D'.nx σ3 H3) → tb D' (σ'.set j (some (kV k))) H')
    (done : ∀ σ' H' od, H' d = some (.frz od (.dK kvs)) → Pv kvs.length σ' H' → u D σ' (upd H' d (.dK kvs))) : tSeq (tLock (tFor (iKeys te) (gName j) tb)) u D σ H :=
  ⟨d, .dK kvs, hd, trivial, fun od => ha _ _ ⟨d, od, rfl, .inl ⟨kvs, upd_same, for_it walk_keys (fun i σ' H' => H' d = some (.frz od (.dK kvs)) ∧ Pv i σ' H') ⟨upd_same, h0 _ fun b o hb e => by rw [upd_ne hb]; exact e⟩ (fun i σ H _ h => h.1)
    (fun i x σ H H' hi ⟨e, p⟩ y => by
      obtain ⟨e1, k, v, hk, e2⟩ := y
      subst e1 e2
      exact hs od i k v σ _ hk e p _ fun σ3 H3 e3 p3 => ⟨e3, p3⟩)
    (fun σ H h => ⟨h.1, done _ _ _ h.1 h.2⟩)⟩⟩⟩
theorem rs_tupR {K : PySem.W.Frag} {te : TE} {g : TG} {tb u : TS} {D : Ends} {σ : L2.St} {H : Hp} (P0 : Addr → List V → Hp → Prop) (Pv : Addr → List V → Hp → Nat → L2.St → Hp → Prop) (hw : ∀ Q : VK, (∀ l xs H1, P0 l xs H1 → Q (.ref l) H1) → te σ H Q) (h0 : ∀ l xs H1, P0 l xs H1 → Pv l xs H1 0 σ H1)
    (hl : ∀ l xs H1 i σ H, Pv l xs H1 i σ H → SqT K H l xs) (hs : ∀ l xs H1 i x σ H, P0 l xs H1 → xs[i]? = some x → Pv l xs H1 i σ H → g x σ H fun σ2 H2 => tb { D with nx := Pv l xs H1 (i + 1), ct := Pv l xs H1 (i + 1), bk := u D } σ2 H2)
    (hd : ∀ l xs H1 σ H, P0 l xs H1 → Pv l xs H1 xs.length σ H → u D σ H) : tSeq (tFor (iTup K te) g tb) u D σ H :=
  hw _ fun l xs H1 p => ⟨l, rfl, ⟨_, hl _ _ _ _ _ _ (h0 l xs H1 p)⟩, for_tup (D := { D with nx := u D }) (xs := xs) (Pv l xs H1) (h0 l xs H1 p) (fun i σ H _ q => hl _ _ _ _ _ _ q) (fun i x σ H hx q => hs l xs H1 i x σ H p hx q) (fun σ H q => hd l xs H1 σ H p q)⟩
/-- what is kept where only a dict is changed -/
theorem DeedAt.keepN {H H' : Hp} {d q : Addr} {kvs : List (Key × V)} (hd : H d = some (.dK kvs)) (s : SameX d H H') : ∀ {e : Deed}, DeedAt H q e → DeedAt H' q e
  | .come _ _, ⟨tq, h1, h2⟩ => ⟨tq, s _ _ (fun z => by rw [z, hd] at h1; cases h1) h1, s _ _ (fun z => by rw [z, hd] at h2; cases h2) h2⟩
  | .die _, h => s _ _ (fun z => by
      have h : H q = some (.tup _) := h
      rw [z, hd] at h; cases h) h
theorem DeedsAt.keepN {H H' : Hp} {d l : Addr} {kvs : List (Key × V)} {ds : List Deed} (h : DeedsAt H l ds) (hd : H d = some (.dK kvs)) (s : SameX d H H') : DeedsAt H' l ds := by
  obtain ⟨qs, h1, h2⟩ := h
  exact ⟨qs, s _ _ (fun z => by rw [z, hd] at h1; cases h1) h1, paired_mono (fun q e h => h.keepN hd s) h2⟩
theorem HistO.keepN {C : Addr} {H H' : Hp} {d x : Addr} {kvs : List (Key × V)} {ds : List Deed} (w : HistO C H x ds) (hd : H d = some (.dK kvs)) (s : SameX d H H') : HistO C H' x ds := by
  obtain ⟨⟨dx, dp, lp, ep, fs, h1, h2, h3, h4, h5, h6, ⟨qs, h7, h7'⟩, h8, h9⟩, a', b⟩ := w
  have k : ∀ {b : Addr} {o : HO}, H b = some o → (∀ kvs : List (Key × V), o ≠ HO.dK kvs) → H' b = some o := fun {b o} e n => s _ _ (fun z => by rw [z, hd] at e; exact n kvs (Option.some.inj e).symm) e
  exact ⟨⟨dx, dp, lp, ep, fs, k h1 (fun _ z => nomatch z), h2, h3, h4, h5, h6, ⟨qs, k h7 (fun _ z => nomatch z), paired_mono (fun q d e => e.keepN hd s) h7'⟩, k h8 (fun _ z => nomatch z), k h9 (fun _ z => nomatch z)⟩, a', b⟩
theorem Pot.keepN {H H' : Hp} {a d : Addr} {N : Nat} {kvs : List (Key × V)} (h : Pot H a N) (hd : H d = Option.some (.dK kvs)) (s : SameX d H H') : Pot H' a N := by
  obtain ⟨u, v, z, e, hh⟩ := h.ex
  exact ⟨u, v, z, s _ _ (fun z => by rw [z, hd] at e; cases e) e, hh⟩
theorem HistO.keepX {C : Addr} {H H' : Hp} {a x : Addr} {N : Nat} {ds : List Deed} (w : HistO C H x ds) (hP : Pot H a N) (s : SameX a H H') : HistO C H' x ds := by
  obtain ⟨⟨dx, dp, lp, ep, fs, h1, h2, h3, h4, h5, h6, ⟨qs, h7, h7'⟩, h8, h9⟩, a', b⟩ := w
  exact ⟨⟨dx, dp, lp, ep, fs, s.keepP hP h1 (fun _ _ _ z => nomatch z), h2, h3, h4, h5, h6, ⟨qs, s _ _ (pot_tup hP h7) h7, paired_mono (fun q d e => e.sx hP s) h7'⟩, s _ _ (pot_tup hP h8) h8, s _ _ (pot_tup hP h9) h9⟩, a', b⟩
/-- keywords in the sequence of the parameters -/
def gSame : List Value → List Value → List Value := fun us ws => match us with
  | [] => ws
  | _ :: _ => []
def gVSame : List V → List V → List V := fun us ws => match us with
  | [] => ws
  | _ :: _ => []
theorem same_rel {vs : List V} {us : List Value} {zs : List V} {ws : List Value} (r : Vals vs us) (h : Vals zs ws) : Vals (gVSame vs zs) (gSame us ws) := by
  cases r with
  | nil => exact h
  | cons _ _ => exact .nil
theorem kbS1 {K : PySem.W.Frag} {fd : FuncData} {p : Str} (h : ∀ (s : Shared) (a : Value), BindsTo s fd ⟨[], [(p, a)]⟩ [(p, a)]) : KBinds K fd [p] [p] gSame gVSame := by
  refine ⟨fun s us ws _ hl => ?_, same_rel⟩
  cases us with
  | cons u us => cases hl
  | nil =>
    have hl : ws.length = 1 := hl
    match ws, hl with
    | [a], _ => exact h s a
theorem kbS2 {K : PySem.W.Frag} {fd : FuncData} {p q : Str} (h : ∀ (s : Shared) (a b : Value), BindsTo s fd ⟨[], [(p, a), (q, b)]⟩ [(p, a), (q, b)]) : KBinds K fd [p, q] [p, q] gSame gVSame := by
  refine ⟨fun s us ws _ hl => ?_, same_rel⟩
  cases us with
  | cons u us => cases hl
  | nil =>
    have hl : ws.length = 2 := hl
    match ws, hl with
    | [a, b], _ => exact h s a b
theorem tame_bool (b : Bool) : Tame 8 (.bool b) := ⟨by rw [PyData.canLay0], by rw [PyData.showable], by rw [PyData.intsShort], by rw [PyData.depth]; decide, by rw [PyData.weight]; decide⟩
theorem repr_int {K : PySem.W.Frag} {n : Nat} {H : Hp} {Q : VK} (h : n ≤ 200) (q : Q (.str (PyData.int (n : Int)).shown) H) : rRepr K [.int (n : Nat)] H Q := ⟨_, .int (n : Int), rfl, .inl (.int _), (tame_int h).sh, Nat.le_trans (tame_int h).dp (by decide), (tame_int h).len (by decide), q⟩
theorem repr_bool {K : PySem.W.Frag} {b : Bool} {H : Hp} {Q : VK} (q : Q (.str (PyData.bool b).shown) H) : rRepr K [.bl b] H Q := ⟨_, .bool b, rfl, .inl (.bl _), (tame_bool b).sh, Nat.le_trans (tame_bool b).dp (by decide), (tame_bool b).len (by decide), q⟩
theorem Hist.cnt_le {ds : List Deed} (h : Hist ds) (z : Str) : cntD ds z ≤ ds.length := by
  induction h with
  | nil => exact Nat.le_refl _
  | @come ds n ts h nm new asc sub ih =>
    rw [cnt_snoc, List.length_append]
    show (if z = n then ts.length else cntD ds z) + (if z ∈ ts then 1 else 0) ≤ ds.length + 1
    have hts : ts.length ≤ ds.length := Nat.le_trans (len_sub sub asc.nodup) h.liv_len
    split <;> split <;> omega
  | @die ds n h lv ih =>
    rw [cnt_snoc, List.length_append]
    show cntD ds z ≤ ds.length + 1
    omega
/-- the first deeds, a list of its own -/
theorem deeds_take {H : Hp} {l c : Addr} {ds : List Deed} {qs : List Addr} (e : H l = some (.lst (qs.map V.ref))) (h : Paired (DeedAt H) qs ds) (m : Nat) (nc : H c = none) : DeedsAt (upd H c (.lst ((qs.map V.ref).take m))) c (ds.take m) := by
  rw [← List.map_take]
  have hql := Paired.length h
  have tc := same_upd (o := .lst ((qs.take m).map V.ref)) nc
  refine ⟨qs.take m, upd_same, ?_⟩
  refine paired_ix2 (by rw [List.length_take, List.length_take, hql]) fun j' q' e' hq' he' => ?_
  rw [List.getElem?_take] at hq' he'
  split at hq'
  · rename_i hlt
    rw [if_pos hlt] at he'
    obtain ⟨e2, he2, ee⟩ := paired_get h hq'
    rw [he'] at he2
    cases he2
    exact ee.keep tc
  · cases hq'
end Hw

set_option Elab.async false
set_option linter.all false
set_option maxRecDepth 100000
set_option maxHeartbeats 4000000
namespace Hw
open PySem L2 PyProof.Rows
abbrev sRight : Stmt := topS 49
abbrev sLaw : Stmt := topS 50
def spRight : Sp := fun vs H Q _ => ∃ (a : Addr) (N : Nat), vs = [.ref a] ∧ Pot H a N ∧ N < 100000000 ∧ ∀ H', SameX a H H' → Pot H' a (N + 10000) → Q (.bl true) H'
def At8 (C a dl x : Addr) (ds : List Deed) (M : Nat) (H0 H : Hp) : Prop := SameX a H0 H ∧ Pot H a M ∧ DeedsAt H dl ds ∧ HistO C H x ds
theorem At8.keep {C a dl x : Addr} {ds : List Deed} {M : Nat} {H0 H H' : Hp} (w : At8 C a dl x ds M H0 H) (s : Same H H') : At8 C a dl x ds M H0 H' := ⟨w.1.trans (.of s), w.2.1.same s, w.2.2.1.keep s, w.2.2.2.keep s⟩
theorem At8.sx {C a dl x : Addr} {ds : List Deed} {M M' : Nat} {H0 H H' : Hp} (w : At8 C a dl x ds M H0 H) (s : SameX a H H') (p : Pot H' a M') : At8 C a dl x ds M' H0 H' := ⟨w.1.trans s, p, w.2.2.1.sx w.2.1 s, w.2.2.2.keepX w.2.1 s⟩
section
variable {P : Program} {w : World} {K : PySem.W.Frag} {mg : Str → Option Value} {base : Heap}
abbrev nRight : List Str := ["pot", "wood", "deeds", "history", "counts", "name", "many", "first", "due", "deed", "power", "lap", "some", "number"]
theorem scRight : FnScope nRight ["pot"] (defScope sRight) := ⟨rfl, rfl, rfl, by decide +kernel, rfl, by decide +kernel, by decide +kernel⟩
theorem ok_right {f fT fH fX fN fE fD fW fG fL fI C : Addr} {fd fdT fdH fdX fdN fdE fdD fdW fdG fdL fdI : FuncData} {k j : Nat} (hj : j + 1 ≤ k) (F : Fun K "_law_right" "_law_right" sRight f fd) (B : Blt mg) (B3 : Blt3 mg) (br : mg "repr" = none) (T : TxtH K mg C) (M : Mk K C fI) (Cq : ClsQ K mg C)
    (GT : FnOk P w K mg base CX0 k fT fdT ["pot", "upto"] spTake) (gT : mg "_law_take" = some (.ref fT)) (kT : PySem.W.keepIn K (.ref fT) = true) (bT : Binds K fdT ["pot", "upto"] [])
    (GH : FnOk P w K mg base CX0 k fH fdH ["pot", "places", "more", "wood"] spHist) (gH : mg "_law_history" = some (.ref fH)) (kH : PySem.W.keepIn K (.ref fH) = true) (bH : Binds K fdH ["pot", "places", "more", "wood"] [])
    (GX : FnOk P w K mg base CX0 k fX fdX ["deeds"] spHText) (gX : mg "_law_history_text" = some (.ref fX)) (kX : PySem.W.keepIn K (.ref fX) = true) (bX : Binds K fdX ["deeds"] [])
    (GN : FnOk P w K mg base CX0 k fN fdN ["deeds"] spCounts) (gN : mg "_law_counts" = some (.ref fN)) (kN : PySem.W.keepIn K (.ref fN) = true) (bN : Binds K fdN ["deeds"] [])
    (GE : FnOk P w K mg base CX0 k fE fdE ["history", "name"] (spElTies C)) (gE : mg "elder_ties" = some (.ref fE)) (kE : PySem.W.keepIn K (.ref fE) = true) (bE : KBinds K fdE ["history", "name"] ["history", "name"] gSame gVSame)
    (GD : FnOk P w K mg base CX0 k fD fdD ["history", "many"] (spFirst C)) (gD : mg "first_deeds" = some (.ref fD)) (kD : PySem.W.keepIn K (.ref fD) = true) (bD : KBinds K fdD ["history", "many"] ["history", "many"] gSame gVSame)
    (GW : FnOk P w K mg base CX0 k fW fdW ["history"] (spIsWoodH C)) (gW : mg "is_wood_history" = some (.ref fW)) (kW : PySem.W.keepIn K (.ref fW) = true) (bW : KBinds K fdW ["history"] ["history"] gSame gVSame)
    (GG : FnOk P w K mg base CX0 k fG fdG ["number"] spFig) (gG : mg "figures" = some (.ref fG)) (kG : PySem.W.keepIn K (.ref fG) = true) (bG : KBinds K fdG ["number"] ["number"] gSame gVSame)
    (GL : FnOk P w K mg base CX0 k fL fdL ["number"] spFig) (gL : mg "_law_figures" = some (.ref fL)) (kL : PySem.W.keepIn K (.ref fL) = true) (bL : Binds K fdL ["number"] [])
    (GI : FnOk P w K mg base CX0 j fI fdI ["self", "text"] (spInitH C)) (bI : Binds K fdI ["self", "text"] []) :
    FnG P w K mg base CX0 (k + 1) f fd ["pot"] spRight := by
  refine funG F scRight (fun vs H Q E h => ?_) (fun cdv A outer s H vs Q E hg h => ?_)
  · obtain ⟨a, N, rfl, _⟩ := h
    rfl
  · obtain ⟨a, N, rfl, hP, hN, q⟩ := h
    have hr := hg.r
    have hu := hu_of hr
    have hrj := hr.mono hj
    have hun := hr.un
    have hgg := hg.g
    have h100 : (A.deeper (envOfC "_law_right" (defScope sRight) s.heap.objs.size f cdv)).units + 100 < cLine := by omega
    refine ⟨_, pss_cons (ps_set (i := 1) scRight.nd rfl (.inl rfl) (pe_cmpR op_eq (pe_call GT hr (by rfl) gT kT bT .nil pass0 (pa_cons (pv 0) (pa_cons pe_int pa_nil))) pe_int (nomark _)))
      (pss_cons (ps_set (i := 2) scRight.nd rfl (.inl rfl) (pe_call GH hr (by rfl) gH kH bH .nil pass0 (pa_cons (pv 0) (pa_cons pe_int (pa_cons pe_int (pa_cons (pv 1) pa_nil))))))
      (pss_cons (ps_par (i := 3) (j := 4) rfl scRight.nd rfl rfl (by decide) rfl rfl (pa_cons (pe_make M GI hrj (by rfl) T.mH bI .nil pass0 (pa_cons (pe_call GX hr (by rfl) gX kX bX .nil pass0 (pa_cons (pv 2) pa_nil)) pa_nil)) (pa_cons (pe_call GN hr (by rfl) gN kN bN .nil pass0 (pa_cons (pv 2) pa_nil)) pa_nil)) rfl)
      (pss_cons (ps_lock (ps_for PassesOwn.never rfl (pi_keys (pv 4)) (pg_name (i := 5) scRight.nd rfl (.inl rfl))
        (pss_one (ps_if (pt_cmpR op_ne (pe_callB (call_repr hgg h100) (by rfl) br PyProof.Rows.boot_repr (pa_cons (pe_callK0 GE hr (by rfl) gE kE bE pass0 (pk_cons (pv 3) (pk_cons (pv 5) pk_nil))) pa_nil))
            (pe_callB (call_repr hgg h100) (by rfl) br PyProof.Rows.boot_repr (pa_cons (pe_dget hu (pv 4) (pv 5) (fun _ _ => rfl)) pa_nil)) (nomark _)) (pss_one (ps_ret pe_bl)) pss_nil))))
      (pss_cons (ps_for PassesOwn.never rfl (pi_tup (pe_tup (pa_cons pe_int (pa_cons (pe_callB call_len_seq (by rfl) B.len PySem.boot_len (pa_cons (pv 2) pa_nil)) (pa_cons (pe_call GT hr (by rfl) gT kT bT .nil pass0 (pa_cons (pv 0) (pa_cons (pe_op op_add (pe_callB call_len_seq (by rfl) B.len PySem.boot_len (pa_cons (pv 2) pa_nil)) pe_int) pa_nil))) pa_nil))))) (pg_name (i := 6) scRight.nd rfl (.inl rfl))
        (pss_cons (ps_set (i := 7) scRight.nd rfl (.inl rfl) (pe_callK0 GD hr (by rfl) gD kD bD pass0 (pk_cons (pv 3) (pk_cons (pe_callTy call_int1 (by rfl) B.int PyProof.Rows.boot_int (pa_cons (pv 6) pa_nil)) pk_nil))))
        (pss_one (ps_if (PW.pt (pw_or (pt_not (pt_val (pe_callB call_isi (by rfl) B3.isi PyProof.Rows.boot_isinstance (pa_cons (pv 7) (pa_cons (pe_glob (v := .ref C) (by rfl) T.mH rfl) pa_nil)))))
            (pw_or1 (pt_cmpR op_ne (pe_fld (pv 7) rfl) (pe_call GX hr (by rfl) gX kX bX .nil pass0 (pa_cons (pe_slice sl_list (pv 2) po_none (po_some (pv 6))) pa_nil)) (nomark _))))) (pss_one (ps_ret pe_bl)) pss_nil))))
      (pss_cons (ps_set (i := 8) scRight.nd rfl (.inl rfl) (pe_callB (cr_all rfl) (by rfl) B3.all PyProof.Rows.boot_all (pa_cons (pe_lc (own := [("deed", 9)]) (g := gName 9) (tt := tYes) rfl scRight.nd (pi_list (pv 2))
          (blkOk_by (N := nRight) (sc := defScope sRight) (by decide +kernel)) (fun _ _ _ _ _ => pg_name (i := 9) scRight.nd rfl (Or.inl rfl)) (fun _ _ _ _ _ => pts_nil)
          (fun _ _ _ _ _ => pe_or (pe_cmpR op_eq (pe_ix (r := rIxT K) ix_tup (pv 9) pe_int (fun _ _ => rfl)) pe_str (nomark _)) (pe_one (pe_cmpR op_lt (pe_callB (r := rLenS K) call_len_seq (by rfl) B.len PySem.boot_len (pa_cons (pe_ix (r := rIxT K) ix_tup (pv 9) pe_int (fun _ _ => rfl)) pa_nil)) pe_int (nomark _))))) pa_nil)))
      (pss_cons (ps_if (pt_cmpR op_ne (pe_callB (call_repr hgg h100) (by rfl) br PyProof.Rows.boot_repr (pa_cons (pe_callK0 GW hr (by rfl) gW kW bW pass0 (pk_cons (pv 3) pk_nil)) pa_nil)) (pe_callB (call_repr hgg h100) (by rfl) br PyProof.Rows.boot_repr (pa_cons (pv 8) pa_nil)) (nomark _)) (pss_one (ps_ret pe_bl)) pss_nil)
      (pss_cons (ps_set (i := 10) scRight.nd rfl (.inl rfl) pe_int)
      (pss_cons (ps_for PassesOwn.never rfl (pi_range1 (by rfl) B.range (pa_cons (pe_call GT hr (by rfl) gT kT bT .nil pass0 (pa_cons (pv 0) (pa_cons pe_int pa_nil))) pa_nil)) (pg_name (i := 11) scRight.nd rfl (.inl rfl))
        (pss_one (ps_set (i := 10) scRight.nd rfl (.inl rfl) (pe_op op_mul (pv 10) pe_int))))
      (pss_cons (ps_set (i := 12) scRight.nd rfl (.inl rfl) (pe_lst (pa_cons (pe_op op_sub (pv 10) pe_int) (pa_cons (pv 10) (pa_cons (pe_op op_add (pv 10) pe_int) (pa_cons (pe_call GT hr (by rfl) gT kT bT .nil pass0 (pa_cons (pv 0) (pa_cons pe_int pa_nil))) pa_nil))))))
      (pss_one (ps_ret (pe_callB (cr_all rfl) (by rfl) B3.all PyProof.Rows.boot_all (pa_cons (pe_lc (own := [("number", 13)]) (g := gName 13) (tt := tYes) rfl scRight.nd (pi_list (pe_op op_cat (pv 12) (pe_lst (pa_cons pe_int (pa_cons pe_int pa_nil)))))
          (blkOk_by (N := nRight) (sc := defScope sRight) (by decide +kernel)) (fun _ _ _ _ _ => pg_name (i := 13) scRight.nd rfl (Or.inl rfl)) (fun _ _ _ _ _ => pts_nil)
          (fun _ _ _ _ _ => pe_cmpR op_eq (pe_callB (r := rRepr K) (call_repr hgg h100) (by rfl) br PyProof.Rows.boot_repr (pa_cons (pe_callK0 GG hr (by rfl) gG kG bG pass0 (pk_cons (pe_callTy call_int1 (by rfl) B.int PyProof.Rows.boot_int (pa_cons (pv 13) pa_nil)) pk_nil)) pa_nil))
            (pe_callB (r := rRepr K) (call_repr hgg h100) (by rfl) br PyProof.Rows.boot_repr (pa_cons (pe_call GL hr (by rfl) gL kL bL .nil pass0 (pa_cons (pv 13) pa_nil)) pa_nil)) (nomark _))) pa_nil))))))))))))), ?_⟩
    refine rs_set ?_
    refine ⟨.ref a, rfl, a, 2, N, rfl, hP, by omega, by decide, by decide, fun r H1 r0 r1 s1 hp1 => ⟨rfl, ?_⟩⟩
    generalize decide (V.int r = V.int 0) = wd
    refine rs_set ?_
    refine ⟨.ref a, rfl, .bl wd, rfl, a, 12, 12, wd, N + 1, rfl, hp1, by omega, by decide, by decide, by decide, fun dl ds H4 hist hlen hwood hdeeds s4 hp4 => ?_⟩
    have hl40 : ds.length ≤ 40 := by omega
    have sx4 := s1.trans s4
    refine rs_par ?_
    refine ⟨.ref dl, rfl, dl, ds, rfl, hdeeds, hist, by omega, fun H5 s5 => fun x dx nx ndx ndxx => ?_⟩
    refine ⟨x, dx, ds, rfl, hist, by omega, upd_same, fun H6 wx s6 => ⟨rfl, ?_⟩⟩
    have s56 : Same H5 H6 := fun b o e => by
      have m1 := ne_of_none e nx
      have m2 := ne_of_none e ndx
      refine s6 _ _ m1 ?_
      rw [upd_ne m1, upd_ne m2]; exact e
    have w6 : At8 C a dl x ds (N + 1 + 3000) H H6 := ⟨sx4.trans (.of (s5.trans s56)), hp4.same (s5.trans s56), hdeeds.keep (s5.trans s56), wx⟩
    clear s1 hp1 s4 hp4 hwood hdeeds s5 s6 s56 nx ndx ndxx sx4 wx
    refine ⟨.ref dl, rfl, dl, ds, rfl, w6.2.2.1, hist, by omega, fun cd H7 s7 ncd hcd => ⟨_, _, rfl, ?_⟩⟩
    have w7 := w6.keep s7
    refine rs_lockKeys cd _ hcd (fun H' Q1 q1 => ⟨_, rfl, q1⟩) (fun i σ' H' => ∃ o5, σ' = [some (.ref a), some (.bl wd), some (.ref dl), some (.ref x), some (.ref cd), o5, none, none, none, none, none, none, none, none] ∧ SameX cd H7 H') (fun H1 s1 => ⟨_, rfl, s1⟩) ?_ ?_
    · rintro od i ky v σ' H' hk ed ⟨o5, rfl, sx⟩ D' hD'
      obtain ⟨z, hz, ez⟩ : ∃ z, (cameD ds)[i]? = some z ∧ (ky, v) = ((Sum.inr z : Key), natV (cntD ds) z) := by
        unfold encF' at hk
        rw [List.getElem?_map] at hk
        cases e : (cameD ds)[i]? with
        | none => rw [e] at hk; cases hk
        | some z => rw [e] at hk; exact ⟨z, rfl, (Option.some.inj hk).symm⟩
      cases ez
      have hzm := List.mem_of_getElem? hz
      have hc : cntD ds z ≤ 200 := Nat.le_trans (hist.cnt_le z) (by omega)
      have wh := w7.2.2.2.keepN hcd sx
      refine ⟨.ref x, rfl, .str z, rfl, x, z, ds, rfl, wh, hzm, fun H8 s8 => ⟨_, _, rfl, .inl (.int _), (tame_int hc).sh, Nat.le_trans (tame_int hc).dp (by decide), (tame_int hc).len (by decide), ?_⟩⟩
      have g0 : DGet H8 cd (.str z) (some (V.int (cntD ds z : Nat))) := by
        have : DGet H8 cd (.str z) (valV (encF' (cameD ds) (natV (cntD ds))) (Sum.inr z)) := .inl ⟨_, Sum.inr z, .inr ⟨_, s8 _ _ ed⟩, rfl, rfl⟩
        rw [encF_val, if_pos hzm] at this
        exact this
      refine ⟨.ref cd, rfl, .str z, rfl, cd, _, rfl, g0, _, _, rfl, .inl (.int _), (tame_int hc).sh, Nat.le_trans (tame_int hc).dp (by decide), (tame_int hc).len (by decide), rfl, false, by simp, ?_⟩
      exact hD' _ _ (s8 _ _ ed) ⟨_, rfl, sx.trans (.of s8)⟩
    rintro σ' H8 od ed ⟨o5, rfl, sx⟩
    have s78 : Same H7 (upd H8 cd (.dK (encF' (cameD ds) (natV (cntD ds))))) := fun b o e => by
      by_cases hb : b = cd
      · subst hb
        rw [hcd] at e
        rw [upd_same]; exact e
      · rw [upd_ne hb]; exact sx _ _ hb e
    have w8 := w7.keep s78
    generalize (upd H8 cd (.dK (encF' (cameD ds) (natV (cntD ds))))) = H9 at w8 ⊢
    clear w6 w7 s7 ncd hcd sx ed s78
    -- the firsts
    refine rs_tupR (fun t xs H' => ∃ m : Nat, m ≤ ds.length ∧ At8 C a dl x ds (N + 3010) H H' ∧ H' t = some (.tup xs) ∧ xs = [.int 0, .int (ds.length : Nat), .int (m : Nat)])
      (fun t xs H1 i σ' H' => ∃ o6 o7, σ' = [some (.ref a), some (.bl wd), some (.ref dl), some (.ref x), some (.ref cd), o5, o6, o7, none, none, none, none, none, none] ∧ At8 C a dl x ds (N + 3010) H H' ∧ H' t = some (.tup xs))
      (fun Q1 q1 => ?_) (fun t xs H1 ⟨m, _, w1, e1, _⟩ => ⟨_, _, rfl, w1, e1⟩) (fun t xs H1 i σ' H' ⟨_, _, _, _, e1⟩ => sqt_of e1) ?_ ?_
    · obtain ⟨qs, ed, dd⟩ := id w8.2.2.1
      have hql : (qs.map V.ref).length = ds.length := by rw [List.length_map]; exact Paired.length dd
      refine ⟨.ref dl, rfl, dl, _, rfl, .inl (sql_of ed), .ref a, rfl, .ref dl, rfl, dl, _, rfl, .inl (sql_of ed), _, _, rfl, rfl, a, _, _, rfl, w8.2.1, by omega, by omega, by omega, fun r9 H10 r0 r1 s10 hp10 => ⟨by show 3 ≤ sizeLine; decide, fun t nt => ?_⟩⟩
      obtain ⟨m, rfl⟩ : ∃ m : Nat, r9 = (m : Int) := ⟨r9.toNat, by omega⟩
      have hm : m ≤ ds.length := by rw [hql] at r1; omega
      have w10 := (w8.sx s10 (hp10.mono (show N + 1 + 3000 + 1 ≤ N + 3010 by omega))).keep (same_upd (o := .tup [.int 0, .int (ds.length : Nat), .int (m : Nat)]) nt)
      rw [hql]
      exact q1 t _ _ ⟨m, hm, w10, upd_same, rfl⟩
    · rintro t xs H1 i v σ' H' ⟨m, hm, _, _, exs⟩ hv ⟨o6, o7, rfl, w1, e1⟩
      subst exs
      obtain ⟨n, rfl, hn⟩ : ∃ n : Nat, v = .int (n : Nat) ∧ n ≤ ds.length := by
        have := List.mem_of_getElem? hv
        simp only [List.mem_cons, List.not_mem_nil, or_false] at this
        rcases this with rfl | rfl | rfl
        · exact ⟨0, rfl, Nat.zero_le _⟩
        · exact ⟨_, rfl, Nat.le_refl _⟩
        · exact ⟨_, rfl, hm⟩
      refine r_gname ?_
      refine rs_set ?_
      refine ⟨.ref x, rfl, .int n, rfl, .inl ⟨_, rfl, x, n, ds, rfl, w1.2.2.2, hn, fun y H2 wy s2 ny => ?_⟩⟩
      have w2 := w1.keep s2
      have e2 := s2 _ _ e1
      obtain ⟨qs, ed, dd⟩ := id w2.2.2.1
      obtain ⟨dy, _, _, _, fs, y1, _, y3, _⟩ := id wy.ex
      refine ⟨.ref y, rfl, .ref y, .ref C, .ref C, .ref C, true, rfl, .own _, .base (.ins y1 T.cl Cq.ha Cq.hn Cq.htk Cq.hm), kit_same, true, rfl, ?_⟩
      refine ⟨.ref y, rfl, y, C, dy, _, _, rfl, y1, T.cl, T.nT, y3, .ref dl, rfl, _, rfl, _, rfl, dl, _, rfl, sql_of ed, fun c nc => ?_⟩
      rw [cut_to]
      have tc := same_upd (o := .lst ((qs.map V.ref).take n)) nc
      refine ⟨c, ds.take n, rfl, deeds_take ed dd n nc, hist.take n, by rw [List.length_take]; omega, fun H3 s3 => ⟨rfl, false, by simp, ?_⟩⟩
      exact ⟨_, _, rfl, w2.keep (tc.trans s3), s3 _ _ (tc _ _ e2)⟩
    rintro t xs H1 σ' H10 ⟨m, hm, _, _, exs⟩ ⟨o6, o7, rfl, w10, _⟩
    clear w8
    -- due
    obtain ⟨qs, ed, dd⟩ := id w10.2.2.1
    refine rs_set ?_
    refine ⟨.ref dl, rfl, dl, rfl, ⟨_, sql_of ed⟩, fun D nD => lc_list (xs := qs.map V.ref) (fun i H' => Same H10 H' ∧ H' D = some (.lst (((ds.take i).map fun d => decide (d.ties.length ≤ 1)).map V.bl))) ⟨same_upd nD, upd_same⟩ (fun i H' _ h => sql_of (h.1 _ _ ed)) ?_ ?_⟩
    · rintro i v H' hx ⟨sx, eD⟩
      obtain ⟨qd, hq, rfl⟩ := map_get hx
      obtain ⟨d, hd, ed⟩ := paired_get dd hq
      obtain ⟨more, em⟩ := (ed.keep sx).two (K := K)
      have fin : ∃ acc, H' D = some (.lst acc) ∧ acc.length < sizeLine ∧ (Same H10 (upd H' D (.lst (acc ++ [.bl (decide (d.ties.length ≤ 1))]))) ∧ (upd H' D (.lst (acc ++ [.bl (decide (d.ties.length ≤ 1))]))) D = some (.lst (((ds.take (i + 1)).map fun d => decide (d.ties.length ≤ 1)).map V.bl))) := by
        refine ⟨_, eD, smallM (by rw [List.length_map, List.length_map, List.length_take]; omega), fun b o e => ?_, ?_⟩
        · rw [upd_ne (ne_of_none e nD)]; exact sx _ _ e
        · rw [upd_same, take_snoc hd, List.map_append, List.map_append]; rfl
      refine ⟨rfl, r_yes ?_⟩
      refine ⟨.ref qd, rfl, qd, _, 0, .str d.word, rfl, rfl, sqt_of em, atI_nat (j := 0) rfl, rfl, _, congrArg V.bl (word_die d), ?_⟩
      cases d with
      | come n ts =>
        obtain ⟨tq, g1, g2⟩ := ed
        refine ⟨.ref qd, rfl, qd, _, 2, .ref tq, rfl, rfl, sqt_of (sx _ _ g1), rfl, tq, ts.map V.str, rfl, .inr (sqt_of (sx _ _ g2)), _, _, rfl, rfl, ?_⟩
        have e0 : decide (((ts.map V.str).length : Int) < 2) = decide ((Deed.come n ts).ties.length ≤ 1) := by
          rw [decide_eq_decide, List.length_map]
          show (ts.length : Int) < 2 ↔ ts.length ≤ 1
          omega
        rw [← e0] at fin
        exact fin
      | die n => exact fin
    rintro H11 ⟨sx, eD⟩
    rw [List.length_map, Paired.length dd, List.take_length] at eD
    refine ⟨D, _, rfl, sql_of eD, ?_⟩
    have w11 := w10.keep sx
    clear w10 sx eD nD ed dd
    show (fun x H1 => _) (V.bl (isWoodD ds)) H11
    refine rs_no ?_
    refine ⟨.ref x, rfl, x, ds, rfl, w11.2.2.2, fun H12 s12 => ⟨_, _, rfl, .inl (.bl _), (tame_bool _).sh, Nat.le_trans (tame_bool _).dp (by decide), (tame_bool _).len (by decide), .bl (isWoodD ds), rfl, _, _, rfl, .inl (.bl _), (tame_bool _).sh, Nat.le_trans (tame_bool _).dp (by decide), (tame_bool _).len (by decide), rfl, false, by simp, ?_⟩⟩
    have w12 := w11.keep s12
    clear w11 s12
    show if false = true then _ else _
    rw [if_neg Bool.false_ne_true]
    refine rs_set ?_
    -- the power
    refine rs_rngE 0 (fun n H' => n < 20 ∧ At8 C a dl x ds (N + 3011) H H') (fun n i σ' H' => n < 20 ∧ i ≤ n ∧ ∃ o11, σ' = [some (.ref a), some (.bl wd), some (.ref dl), some (.ref x), some (.ref cd), o5, o6, o7, some (.bl (isWoodD ds)), none, some (.int ((2 ^ i : Nat) : Int)), o11, none, none] ∧ At8 C a dl x ds (N + 3011) H H') (fun R q1 => ?_) (fun n H1 h => ⟨h.1, Nat.zero_le _, _, rfl, h.2⟩) ?_ ?_
    · refine ⟨.ref a, rfl, a, _, _, rfl, w12.2.1, by omega, by decide, by decide, fun r13 H13 r0 r1 s13 hp13 => ⟨_, rfl, by omega, by omega, q1 _ _ ⟨by omega, w12.sx s13 hp13⟩⟩⟩
    · rintro n i σ' H' hi ⟨hn, _, o11, rfl, wi⟩
      refine r_gname ?_
      have hb : 2 ^ i ≤ 2 ^ 20 := Nat.pow_le_pow_right (by decide) (by omega)
      have hb2 : (2 : Nat) ^ 20 = 1048576 := by decide
      refine ⟨.int ((2 ^ i : Nat) : Int), rfl, _, _, rfl, rfl, .inl ⟨Int.lt_of_lt_of_le (by decide) (Int.natCast_nonneg (2 ^ i)), Int.lt_of_le_of_lt (Int.ofNat_le.mpr hb) (by rw [hb2]; decide)⟩, hn, hi, some (V.int (0 + (i : Int))), ?_, wi⟩
      show [some (V.ref a), some (.bl wd), some (.ref dl), some (.ref x), some (.ref cd), o5, o6, o7, some (.bl (isWoodD ds)), none, some (.int (((2 ^ i : Nat) : Int) * 2)), some (V.int (0 + (i : Int))), none, none] = _
      rw [show (((2 ^ i : Nat) : Int) * 2) = ((2 ^ (i + 1) : Nat) : Int) by rw [Nat.pow_succ]; omega]
    rintro n σ' H13 ⟨hn, _, o11, rfl, w13⟩
    have hb : 2 ^ n ≤ 2 ^ 19 := Nat.pow_le_pow_right (by decide) (by omega)
    have hb2 : (2 : Nat) ^ 19 = 524288 := by decide
    have hb0 : 0 < 2 ^ n := Nat.pow_pos (by decide)
    generalize 2 ^ n = pw at hb hb0 w13 ⊢
    clear w12
    refine rs_set ?_
    refine ⟨.int pw, rfl, _, _, rfl, rfl, .int pw, rfl, .int pw, rfl, _, _, rfl, rfl, .ref a, rfl, a, _, _, rfl, w13.2.1, by omega, by decide, by decide, fun r14 H14 r0 r1 s14 hp14 => ⟨by show 4 ≤ sizeLine; decide, fun l nl => ?_⟩⟩
    obtain ⟨m, rfl⟩ : ∃ m : Nat, r14 = (m : Int) := ⟨r14.toNat, by omega⟩
    have w14 := w13.sx s14 hp14
    refine ⟨.ref l, rfl, by show 2 ≤ sizeLine; decide, fun l2 nl2 => ?_⟩
    have t1 := same_upd (o := .lst [.int ((pw : Int) - 1), .int pw, .int ((pw : Int) + 1), .int m]) nl
    have t2 := same_upd (o := .lst [.int 0, .int 1000000]) nl2
    have el : (upd (upd H14 l (.lst [.int ((pw : Int) - 1), .int pw, .int ((pw : Int) + 1), .int m])) l2 (.lst [.int 0, .int 1000000])) l = some (.lst [.int ((pw : Int) - 1), .int pw, .int ((pw : Int) + 1), .int m]) := t2 _ _ upd_same
    refine ⟨l, l2, _, _, rfl, rfl, el, upd_same, by show 4 + 2 ≤ sizeLine; decide, fun l3 nl3 => ?_⟩
    have ec : [V.int ((pw : Int) - 1), .int pw, .int ((pw : Int) + 1), .int m] ++ [V.int 0, .int 1000000] = ([pw - 1, pw, pw + 1, m, 0, 1000000] : List Nat).map fun n => V.int (n : Nat) := by
      show [V.int ((pw : Int) - 1), .int pw, .int ((pw : Int) + 1), .int m, .int 0, .int 1000000] = [V.int ((pw - 1 : Nat) : Int), .int pw, .int ((pw + 1 : Nat) : Int), .int m, .int ((0 : Nat) : Int), .int ((1000000 : Nat) : Int)]
      rw [show ((pw - 1 : Nat) : Int) = (pw : Int) - 1 by omega, show ((pw + 1 : Nat) : Int) = (pw : Int) + 1 by omega]; rfl
    rw [ec]
    have t3 := same_upd (o := .lst (([pw - 1, pw, pw + 1, m, 0, 1000000] : List Nat).map fun n => V.int (n : Nat))) nl3
    have w15 := ((w14.keep t1).keep t2).keep t3
    have e15 : (upd (upd (upd H14 l (.lst [.int ((pw : Int) - 1), .int pw, .int ((pw : Int) + 1), .int m])) l2 (.lst [.int 0, .int 1000000])) l3 (.lst (([pw - 1, pw, pw + 1, m, 0, 1000000] : List Nat).map fun n => V.int (n : Nat)))) l3 = some (.lst (([pw - 1, pw, pw + 1, m, 0, 1000000] : List Nat).map fun n => V.int (n : Nat))) := upd_same
    have hall : ∀ n ∈ ([pw - 1, pw, pw + 1, m, 0, 1000000] : List Nat), n ≤ 1000000 := by
      intro n hn
      simp only [List.mem_cons, List.not_mem_nil, or_false] at hn
      omega
    generalize (upd (upd (upd H14 l (.lst [.int ((pw : Int) - 1), .int pw, .int ((pw : Int) + 1), .int m])) l2 (.lst [.int 0, .int 1000000])) l3 (.lst (([pw - 1, pw, pw + 1, m, 0, 1000000] : List Nat).map fun n => V.int (n : Nat)))) = H15 at w15 e15 ⊢
    have hlen : ([pw - 1, pw, pw + 1, m, 0, 1000000] : List Nat).length = 6 := rfl
    generalize ([pw - 1, pw, pw + 1, m, 0, 1000000] : List Nat) = zs at hall e15 hlen ⊢
    clear w13 w14 t1 t2 t3 el ec
    refine ⟨l3, rfl, ⟨_, sql_of e15⟩, fun D2 nD2 => lc_list (xs := zs.map fun n => V.int (n : Nat)) (fun i H' => Same H15 H' ∧ H' D2 = some (.lst ((List.replicate i true).map V.bl))) ⟨same_upd nD2, upd_same⟩ (fun i H' _ h => sql_of (h.1 _ _ e15)) ?_ ?_⟩
    · rintro i v H' hx ⟨sx, eD2⟩
      have hi := (List.getElem?_eq_some_iff.mp hx).1
      rw [List.length_map, hlen] at hi
      obtain ⟨nn, hnn, rfl⟩ := map_get hx
      have hle := hall nn (List.mem_of_getElem? hnn)
      have hbits : Builtin.Int.intBits (nn : Int) ≤ 200 := Nat.le_trans (PyProof.Rows.intBits_le (k := 20) (by
        rw [Int.natAbs_natCast]
        have : (2 : Nat) ^ 20 = 1048576 := by decide
        omega)) (by decide)
      refine ⟨rfl, r_yes ?_⟩
      refine ⟨.int nn, rfl, .inl ⟨_, rfl, nn, rfl, hle, _, _, rfl, .inl (.int _), (tame_int hbits).sh, Nat.le_trans (tame_int hbits).dp (by decide), (tame_int hbits).len (by decide), ?_⟩⟩
      refine ⟨.int nn, rfl, nn, rfl, hle, _, _, rfl, .inl (.int _), (tame_int hbits).sh, Nat.le_trans (tame_int hbits).dp (by decide), (tame_int hbits).len (by decide), rfl, ?_⟩
      refine ⟨_, eD2, smallM (by rw [List.length_map, List.length_replicate]; omega), fun b o e => ?_, ?_⟩
      · rw [upd_ne (ne_of_none e nD2)]; exact sx _ _ e
      · rw [upd_same, decide_eq_true rfl, List.replicate_succ', List.map_append]; rfl
    · rintro H16 ⟨sx, eD2⟩
      refine ⟨D2, _, rfl, sql_of eD2, ?_⟩
      rw [all_rep]
      have w16 := w15.keep sx
      exact q H16 w16.1 (w16.2.1.mono (by omega))
end
end Hw

set_option Elab.async false
set_option linter.all false
set_option maxRecDepth 100000
set_option maxHeartbeats 4000000
namespace Hw
open PySem L2 PyProof.Rows
theorem Pot.put {H : Hp} {x D : Addr} {N : Nat} {o : HO} (h : Pot H x N) (ne : x ≠ D) : Pot (upd H D o) x N := by
  obtain ⟨u, v, z, e, hh⟩ := h.ex
  exact ⟨u, v, z, by rw [upd_ne ne]; exact e, hh⟩
theorem Pot.sx {H H' : Hp} {x a : Addr} {N : Nat} (h : Pot H x N) (ne : x ≠ a) (s : SameX a H H') : Pot H' x N := by
  obtain ⟨u, v, z, e, hh⟩ := h.ex
  exact ⟨u, v, z, s _ _ ne e, hh⟩
def spLaw (K : PySem.W.Frag) : Sp := fun vs H Q _ => ∃ (a : Addr) (ns : List Int), vs = [.ref a] ∧ SqL K H a (ns.map V.int) ∧ ns.length ≤ 63 ∧ ∀ H', Q (.bl true) H'
section
variable {P : Program} {w : World} {K : PySem.W.Frag} {mg : Str → Option Value} {base : Heap}
theorem scLaw : FnScope ["script", "pots", "place", "lap", "pot"] ["script"] (defScope sLaw) := ⟨rfl, rfl, rfl, by decide +kernel, rfl, by decide +kernel, by decide +kernel⟩
theorem ok_law {f fP fC fR : Addr} {fd fdP fdC fdR : FuncData} {k : Nat} (F : Fun K "law" "law" sLaw f fd) (B : Blt mg) (ba : mg "all" = none)
    (GP : FnOk P w K mg base CX0 k fP fdP ["script", "place"] (spPot K)) (gP : mg "_law_pot" = some (.ref fP)) (kP : PySem.W.keepIn K (.ref fP) = true) (bP : Binds K fdP ["script", "place"] [])
    (GC : FnOk P w K mg base CX0 k fC fdC ["script", "most"] (spCells K)) (gC : mg "_law_cells" = some (.ref fC)) (kC : PySem.W.keepIn K (.ref fC) = true) (bC : Binds K fdC ["script", "most"] [])
    (GR : FnG P w K mg base CX0 k fR fdR ["pot"] spRight) (gR : mg "_law_right" = some (.ref fR)) (kR : PySem.W.keepIn K (.ref fR) = true) (bR : Binds K fdR ["pot"] []) :
    FnG P w K mg base CX0 (k + 1) f fd ["script"] (spLaw K) := by
  refine funG F scLaw (fun vs H Q E h => ?_) (fun cdv A outer s H vs Q E hg h => ?_)
  · obtain ⟨a, ns, rfl, _⟩ := h
    rfl
  · obtain ⟨a, ns, rfl, hS, hl, q⟩ := h
    have hr := hg.r
    have hu64 := hr.units
    refine ⟨_, pss_cons (ps_setLc (i := 1) (own := [("place", 2)]) (g := gName 2) (tt := tYes) rfl scLaw.nd rfl rfl (sw_true rfl rfl rfl (by decide +kernel)) (pi_list (pe_call GC hr (by rfl) gC kC bC .nil pass0 (pa_cons (pv 0) (pa_cons pe_int pa_nil))))
        (blkOk_by (N := ["script", "pots", "place", "lap", "pot"]) (sc := defScope sLaw) (by decide +kernel)) (fun _ _ _ _ _ => pg_name (i := 2) scLaw.nd rfl (Or.inl rfl)) (fun _ _ _ _ _ => pts_nil)
        (fun _ _ _ _ _ => pe_call GP hr (by rfl) gP kP bP .nil pass0 (pa_cons (pv 0) (pa_cons (pv 2) pa_nil))))
      (pss_one (ps_ret (pe_callB (cr_all rfl) (by rfl) ba PyProof.Rows.boot_all (pa_cons (pe_lc (own := [("pot", 4)]) (g := gName 4) (tt := tYes) (te := tCB (rAll K) (tCons (tLc (iRng1 (tCons (tC (.int 2)) tNil)) (gName 3) tYes (tCall spRight [] E0 (tCons (tVar 4) tNil)) [3]) tNil)) rfl scLaw.nd (pi_list (pv 1))
          (blkOk_by (N := ["script", "pots", "place", "lap", "pot"]) (sc := defScope sLaw) (by decide +kernel)) (fun _ _ _ _ _ => pg_name (i := 4) scLaw.nd rfl (Or.inr rfl)) (fun _ _ _ _ _ => pts_nil)
          (fun _ _ _ _ _ => pe_callB (cr_all rfl) (by rfl) ba PyProof.Rows.boot_all (pa_cons (pe_lc (own := [("lap", 3)]) (g := gName 3) (tt := tYes) (te := tCall spRight [] E0 (tCons (tVar 4) tNil)) rfl scLaw.nd (pi_range1 (by rfl) B.range (pa_cons pe_int pa_nil))
            (blkOk_by (N := ["script", "pots", "place", "lap", "pot"]) (sc := { kind := .function, names := [(".0", .local), ("pot", .cell), ("all", .globalImplicit), ("range", .globalImplicit)], isGenerator := false, isCoroutine := false }) (by decide +kernel)) (fun _ _ _ _ _ => pg_name (i := 3) scLaw.nd rfl (Or.inl rfl)) (fun _ _ _ _ _ => pts_nil)
            (fun _ _ _ _ _ => pe_callG GR hg (by rfl) gR kR bR .nil pass0 (pa_cons (pv 4) pa_nil))) pa_nil))) pa_nil)))), ?_⟩
    refine rs_set ?_
    refine ⟨.ref a, rfl, a, ns.map V.int, 3, rfl, hS, by rw [List.length_map]; exact hl, by decide, by decide, fun n p H1 n0 n3 s1 np hp => ?_⟩
    refine ⟨p, rfl, ⟨_, sql_of hp⟩, fun D hD => ?_⟩
    have lenr : ((List.range n).map fun i : Nat => V.int (i : Int)).length = n := by rw [List.length_map, List.length_range]
    refine lc_list (xs := (List.range n).map fun i : Nat => V.int (i : Int)) (fun i H' => ∃ ps : List Addr, ps.length = i ∧ Same H1 H' ∧ H' D = some (.lst (ps.map V.ref)) ∧ ps.Nodup ∧ ∀ x ∈ ps, Pot H' x 0) ⟨[], rfl, same_upd hD, upd_same, .nil, fun _ z => nomatch z⟩ (fun i H' _ ⟨_, _, s, _⟩ => sql_of (s _ _ hp)) ?_ ?_
    · rintro i x H2 hx ⟨ps, pl, s2, eD, hn, hpp⟩
      rw [List.getElem?_map] at hx
      have hi : i < n := by
        cases e : (List.range n)[i]? with
        | none => rw [e] at hx; cases hx
        | some y =>
          have z := (List.getElem?_eq_some_iff.mp e).1
          rwa [List.length_range] at z
      rw [List.getElem?_range hi] at hx
      obtain rfl : V.int (i : Int) = x := Option.some.inj hx
      refine ⟨rfl, r_yes ?_⟩
      refine r_call (r_cons (r_var (v := .ref a) rfl (r_cons (r_var (v := .int (i : Int)) rfl ⟨a, ns, i, rfl, (s1.trans s2).seq hS, hl, by omega, by omega, fun pp H3 s3 np3 hp3 => ?_⟩))))
      have eD3 := s3 _ _ eD
      have ppD : pp ≠ D := fun z => by rw [z, eD] at np3; cases np3
      refine ⟨_, eD3, smallM (by rw [List.length_map]; omega), ps ++ [pp], by rw [List.length_append, pl]; rfl, fun b o e => ?_, by rw [upd_same, List.map_append]; rfl, ?_, fun y hy => ?_⟩
      · rw [upd_ne (ne_of_none e hD)]; exact s3 _ _ (s2 _ _ e)
      · rw [List.nodup_append]
        exact ⟨hn, by simp, fun x hx y hy e => (hpp x hx).some (by rw [e, List.mem_singleton.mp hy]; exact np3)⟩
      · rcases List.mem_append.mp hy with hy | hy
        · exact ((hpp y hy).same s3).put (pot_ne_refs ((hpp y hy).same s3) eD3)
        · rw [List.mem_singleton.mp hy]
          exact hp3.put ppD
    rintro H2 ⟨ps, pl, s2, eD, hn, hpp⟩
    rw [lenr] at pl
    have eD7 := eD
    have hp7 := hpp
    have plen : ps.length ≤ 3 := by omega
    refine ⟨.ref D, rfl, D, rfl, ⟨_, sql_of eD7⟩, fun D2 nD2 => ?_⟩
    have D2D : D2 ≠ D := fun z => by rw [z, eD7] at nD2; cases nD2
    have D2p : ∀ x ∈ ps, x ≠ D2 := fun x hx z => (hp7 x hx).some (z ▸ nD2)
    have Dp : ∀ x ∈ ps, x ≠ D := fun x hx => pot_ne_refs (hp7 x hx) eD7
    refine lc_list (xs := ps.map V.ref) (fun i H' => H' D = some (.lst (ps.map V.ref)) ∧ (∀ (j : Nat) (x : Addr), ps[j]? = some x → i ≤ j → Pot H' x 0) ∧ H' D2 = some (.lst ((List.replicate i true).map V.bl)))
      ⟨by rw [upd_ne (Ne.symm D2D)]; exact eD7, fun j x hx _ => (hp7 x (List.mem_of_getElem? hx)).put (D2p x (List.mem_of_getElem? hx)), upd_same⟩ (fun i H' _ ⟨w, _⟩ => sql_of w) ?_ ?_
    · rintro i v H' hv ⟨eD', hpj, eD2⟩
      obtain ⟨x, hx, rfl⟩ := map_get hv
      have hxm := List.mem_of_getElem? hx
      have hi := (List.getElem?_eq_some_iff.mp hx).1
      refine ⟨rfl, r_yes ?_⟩
      refine ⟨2, rfl, by decide, by decide, fun D3 nD3 => ?_⟩
      have D3D : D3 ≠ D := fun z => by rw [z, eD'] at nD3; cases nD3
      have D3D2 : D3 ≠ D2 := fun z => by rw [z, eD2] at nD3; cases nD3
      have D3p : ∀ (j : Nat) (y : Addr), ps[j]? = some y → i ≤ j → y ≠ D3 := fun j y hy hij z => (hpj j y hy hij).some (z ▸ nD3)
      refine L2.lc_range (lo := 0) (n := (2 : Int).toNat) (fun k H' => H' D = some (.lst (ps.map V.ref)) ∧ (∀ (j : Nat) (y : Addr), ps[j]? = some y → i + 1 ≤ j → Pot H' y 0) ∧ H' D2 = some (.lst ((List.replicate i true).map V.bl)) ∧ Pot H' x (10000 * k) ∧ H' D3 = some (.lst ((List.replicate k true).map V.bl)))
        ⟨by rw [upd_ne (Ne.symm D3D)]; exact eD', fun j y hy hij => (hpj j y hy (by omega)).put (D3p j y hy (by omega)), by rw [upd_ne (Ne.symm D3D2)]; exact eD2, (hpj i x hx (Nat.le_refl _)).put (D3p i x hx (Nat.le_refl _)), upd_same⟩ ?_ ?_
      · rintro k' H'' hk ⟨q1, q2, q3, q4, q5⟩
        have hk2 : k' < 2 := hk
        refine ⟨rfl, r_yes ?_⟩
        refine ⟨.ref x, rfl, x, 10000 * k', rfl, q4, by omega, fun H8 s8 hp8 => ?_⟩
        have xD3 := D3p i x hx (Nat.le_refl _)
        refine ⟨_, s8 _ _ (Ne.symm xD3) q5, smallM (by rw [List.length_map, List.length_replicate]; omega), ?_, fun j y hy hij => ?_, ?_, (hp8.put xD3).mono (by omega), ?_⟩
        · rw [upd_ne (Ne.symm D3D)]; exact s8 _ _ (Ne.symm (Dp x hxm)) q1
        · have yx : y ≠ x := fun z => by
            obtain ⟨b1, b2⟩ := List.getElem?_eq_some_iff.mp hy
            obtain ⟨c1, c2⟩ := List.getElem?_eq_some_iff.mp hx
            exact List.pairwise_iff_getElem.mp hn i j c1 b1 (by omega) (by rw [c2, b2, z])
          exact ((q2 j y hy hij).sx yx s8).put (D3p j y hy (by omega))
        · rw [upd_ne (Ne.symm D3D2)]; exact s8 _ _ (Ne.symm (D2p x hxm)) q3
        · rw [upd_same, List.replicate_succ', List.map_append]; rfl
      · rintro H'' ⟨q1, q2, q3, q4, q5⟩
        refine ⟨D3, _, rfl, sql_of q5, ?_⟩
        rw [show (List.replicate (2 : Int).toNat true).all id = true from rfl]
        refine ⟨_, q3, smallM (by rw [List.length_map, List.length_replicate]; omega), ?_, fun j y hy hij => ?_, ?_⟩
        · rw [upd_ne (Ne.symm D2D)]; exact q1
        · exact (q2 j y hy hij).put (D2p y (List.mem_of_getElem? hy))
        · rw [upd_same, List.replicate_succ', List.map_append]; rfl
    · rintro H' ⟨eD', _, eD2⟩
      refine ⟨D2, _, rfl, sql_of eD2, ?_⟩
      rw [all_rep]
      exact q H'
end
end Hw

set_option Elab.async false
set_option linter.all false
set_option maxRecDepth 100000
set_option maxHeartbeats 4000000
namespace Hw
open PySem L2 PyProof.Rows
theorem sub_bt {K : PySem.W.Frag} {T : String} {C : Addr} {l : List Value} (h : fastBuiltinMro T = some l) (hl : l.contains (.ref C) = false) : PySem.W.subIn K (.type T) (.ref C) = some false := by
  show (fastBuiltinMro T).map (·.contains (.ref C)) = some false
  rw [h]
  show some (l.contains (.ref C)) = some false
  rw [hl]
theorem kit_no {K : PySem.W.Frag} {T : String} {C : Addr} (hd : PySem.W.hasDictIn K C = true) (hy : PySem.W.typeIn K (.ref C) = some (.type "type")) (hs : PySem.W.subIn K (.type T) (.ref C) = some false) : PySem.W.kitOne K (.type T) (.ref C) = some false := by
  have hc : (PySem.W.clsIn K C).isSome = true := by
    obtain ⟨cd, hc, _⟩ := PySem.W.any_some hd
    rw [hc]; rfl
  unfold PySem.W.kitOne
  rw [if_neg (by simp)]
  show (if ((PySem.W.clsIn K C).isSome && PySem.W.typeIn K (.ref C) == some (.type "type")) = true then PySem.W.subIn K (.type T) (.ref C) else none) = some false
  rw [if_pos (by rw [hc, hy]; simp), hs]

theorem all_mk {P : Program} {w : World} {K : PySem.W.Frag} {h : Heap} {mg : Str → Option Value} {fa C f0 f1 f2 f3 f4 f5 f6 f7 f8 f9 f10 f11 f12 f13 f14 f15 f16 f17 f18 f19 f20 f21 f22 f23 f24 f25 f26 f27 f28 f29 f30 f31 f32 f33 f34 f35 f36 f37 fCm0 fCm1 : Addr} (X : K.In h) (G : h.Ns mainGlobals mg) (hfa : mg "law" = some (.ref fa))
    {od0 an0 od1 an1 od2 an2 od3 an3 od4 an4 od5 an5 od6 an6 od7 an7 od8 an8 od9 an9 od10 an10 od11 an11 od12 an12 od13 an13 od14 an14 od15 an15 od16 an16 od17 an17 od18 an18 od19 an19 od20 an20 od21 an21 od22 an22 od23 an23 od24 an24 od25 an25 od26 an26 od27 an27 od28 an28 od29 an29 od30 an30 od31 an31 od32 an32 od33 an33 od34 an34 od35 an35 od36 an36 od37 an37 odCm0 anCm0 odCm1 anCm1 : Option Addr} {sl0 sl1 sl2 sl3 sl4 sl5 sl6 sl7 sl8 sl9 sl10 sl11 sl12 sl13 sl14 sl15 sl16 sl17 sl18 sl19 sl20 sl21 sl22 sl23 sl24 sl25 sl26 sl27 sl28 sl29 sl30 sl31 sl32 sl33 sl34 sl35 sl36 sl37 slCm0 slCm1 : Array (Option Value)} {oc0 kV0 dc0 pm0 cd0 ct0 oc1 kV1 dc1 pm1 cd1 ct1 oc2 kV2 dc2 pm2 cd2 ct2 oc3 kV3 dc3 pm3 cd3 ct3 oc4 kV4 dc4 pm4 cd4 ct4 oc5 kV5 dc5 pm5 cd5 ct5 oc6 kV6 dc6 pm6 cd6 ct6 oc7 kV7 dc7 pm7 cd7 ct7 oc8 kV8 dc8 pm8 cd8 ct8 oc9 kV9 dc9 pm9 cd9 ct9 oc10 kV10 dc10 pm10 cd10 ct10 oc11 kV11 dc11 pm11 cd11 ct11 oc12 kV12 dc12 pm12 cd12 ct12 oc13 kV13 dc13 pm13 cd13 ct13 oc14 kV14 dc14 pm14 cd14 ct14 oc15 kV15 dc15 pm15 cd15 ct15 oc16 kV16 dc16 pm16 cd16 ct16 oc17 kV17 dc17 pm17 cd17 ct17 oc18 kV18 dc18 pm18 cd18 ct18 oc19 kV19 dc19 pm19 cd19 ct19 oc20 kV20 dc20 pm20 cd20 ct20 oc21 kV21 dc21 pm21 cd21 ct21 oc22 kV22 dc22 pm22 cd22 ct22 oc23 kV23 dc23 pm23 cd23 ct23 oc24 kV24 dc24 pm24 cd24 ct24 oc25 kV25 dc25 pm25 cd25 ct25 oc26 kV26 dc26 pm26 cd26 ct26 oc27 kV27 dc27 pm27 cd27 ct27 oc28 kV28 dc28 pm28 cd28 ct28 oc29 kV29 dc29 pm29 cd29 ct29 oc30 kV30 dc30 pm30 cd30 ct30 oc31 kV31 dc31 pm31 cd31 ct31 oc32 kV32 dc32 pm32 cd32 ct32 oc33 kV33 dc33 pm33 cd33 ct33 oc34 kV34 dc34 pm34 cd34 ct34 oc35 kV35 dc35 pm35 cd35 ct35 oc36 kV36 dc36 pm36 cd36 ct36 oc37 kV37 dc37 pm37 cd37 ct37 ocCm0 kVCm0 dcCm0 pmCm0 cdCm0 ctCm0 ocCm1 kVCm1 dcCm1 pmCm1 cdCm1 ctCm1 : Value} {tL tM tD tF : Tok}
    (a0 : PySem.W.nsIn K mainGlobals "is_name" = some (some (.ref f0)))
    (l0 : K.lookup f0 = some ⟨oc0, od0, .func (PySem.W.fnOf "is_name" "is_name" (defArgs sIsName) (defBody sIsName) (defScope sIsName) .none kV0 dc0 pm0 an0 cd0 ct0), sl0⟩)
    (c0 : PySem.W.codeIn K cd0 "is_name" = true)
    (k0 : PySem.W.keepIn K (.ref f0) = true)
    (a1 : PySem.W.nsIn K mainGlobals "is_within" = some (some (.ref f1)))
    (l1 : K.lookup f1 = some ⟨oc1, od1, .func (PySem.W.fnOf "is_within" "is_within" (defArgs sWithin) (defBody sWithin) (defScope sWithin) .none kV1 dc1 pm1 an1 cd1 ct1), sl1⟩)
    (c1 : PySem.W.codeIn K cd1 "is_within" = true)
    (k1 : PySem.W.keepIn K (.ref f1) = true)
    (a2 : PySem.W.nsIn K mainGlobals "ascends" = some (some (.ref f2)))
    (l2 : K.lookup f2 = some ⟨oc2, od2, .func (PySem.W.fnOf "ascends" "ascends" (defArgs sAsc) (defBody sAsc) (defScope sAsc) .none kV2 dc2 pm2 an2 cd2 ct2), sl2⟩)
    (c2 : PySem.W.codeIn K cd2 "ascends" = true)
    (k2 : PySem.W.keepIn K (.ref f2) = true)
    (a3 : PySem.W.nsIn K mainGlobals "pair_of" = some (some (.ref f3)))
    (l3 : K.lookup f3 = some ⟨oc3, od3, .func (PySem.W.fnOf "pair_of" "pair_of" (defArgs sPair) (defBody sPair) (defScope sPair) .none kV3 dc3 pm3 an3 cd3 ct3), sl3⟩)
    (c3 : PySem.W.codeIn K cd3 "pair_of" = true)
    (k3 : PySem.W.keepIn K (.ref f3) = true)
    (a4 : PySem.W.nsIn K mainGlobals "is_living" = some (some (.ref f4)))
    (l4 : K.lookup f4 = some ⟨oc4, od4, .func (PySem.W.fnOf "is_living" "is_living" (defArgs sIsLiv) (defBody sIsLiv) (defScope sIsLiv) .none kV4 dc4 pm4 an4 cd4 ct4), sl4⟩)
    (c4 : PySem.W.codeIn K cd4 "is_living" = true)
    (k4 : PySem.W.keepIn K (.ref f4) = true)
    (a5 : PySem.W.nsIn K mainGlobals "are_living" = some (some (.ref f5)))
    (l5 : K.lookup f5 = some ⟨oc5, od5, .func (PySem.W.fnOf "are_living" "are_living" (defArgs sAreLiv) (defBody sAreLiv) (defScope sAreLiv) .none kV5 dc5 pm5 an5 cd5 ct5), sl5⟩)
    (c5 : PySem.W.codeIn K cd5 "are_living" = true)
    (k5 : PySem.W.keepIn K (.ref f5) = true)
    (a6 : PySem.W.nsIn K mainGlobals "can_come" = some (some (.ref f6)))
    (l6 : K.lookup f6 = some ⟨oc6, od6, .func (PySem.W.fnOf "can_come" "can_come" (defArgs sCanCome) (defBody sCanCome) (defScope sCanCome) .none kV6 dc6 pm6 an6 cd6 ct6), sl6⟩)
    (c6 : PySem.W.codeIn K cd6 "can_come" = true)
    (k6 : PySem.W.keepIn K (.ref f6) = true)
    (a7 : PySem.W.nsIn K mainGlobals "can_stand" = some (some (.ref f7)))
    (l7 : K.lookup f7 = some ⟨oc7, od7, .func (PySem.W.fnOf "can_stand" "can_stand" (defArgs sCanStand) (defBody sCanStand) (defScope sCanStand) .none kV7 dc7 pm7 an7 cd7 ct7), sl7⟩)
    (c7 : PySem.W.codeIn K cd7 "can_stand" = true)
    (k7 : PySem.W.keepIn K (.ref f7) = true)
    (a8 : PySem.W.nsIn K mainGlobals "read_deed" = some (some (.ref f8)))
    (l8 : K.lookup f8 = some ⟨oc8, od8, .func (PySem.W.fnOf "read_deed" "read_deed" (defArgs sReadD1) (defBody sReadD1) (defScope sReadD1) .none kV8 dc8 pm8 an8 cd8 ct8), sl8⟩)
    (c8 : PySem.W.codeIn K cd8 "read_deed" = true)
    (k8 : PySem.W.keepIn K (.ref f8) = true)
    (a9 : PySem.W.nsIn K mainGlobals "read_deeds" = some (some (.ref f9)))
    (l9 : K.lookup f9 = some ⟨oc9, od9, .func (PySem.W.fnOf "read_deeds" "read_deeds" (defArgs sReadDs) (defBody sReadDs) (defScope sReadDs) .none kV9 dc9 pm9 an9 cd9 ct9), sl9⟩)
    (c9 : PySem.W.codeIn K cd9 "read_deeds" = true)
    (k9 : PySem.W.keepIn K (.ref f9) = true)
    (a10 : PySem.W.nsIn K mainGlobals "lives_behind" = some (some (.ref f10)))
    (l10 : K.lookup f10 = some ⟨oc10, od10, .func (PySem.W.fnOf "lives_behind" "lives_behind" (defArgs sLivesB) (defBody sLivesB) (defScope sLivesB) .none kV10 dc10 pm10 an10 cd10 ct10), sl10⟩)
    (c10 : PySem.W.codeIn K cd10 "lives_behind" = true)
    (k10 : PySem.W.keepIn K (.ref f10) = true)
    (a11 : PySem.W.nsIn K mainGlobals "names_that" = some (some (.ref f11)))
    (l11 : K.lookup f11 = some ⟨oc11, od11, .func (PySem.W.fnOf "names_that" "names_that" (defArgs sNamesT) (defBody sNamesT) (defScope sNamesT) .none kV11 dc11 pm11 an11 cd11 ct11), sl11⟩)
    (c11 : PySem.W.codeIn K cd11 "names_that" = true)
    (k11 : PySem.W.keepIn K (.ref f11) = true)
    (a12 : PySem.W.nsIn K mainGlobals "line_of" = some (some (.ref f12)))
    (l12 : K.lookup f12 = some ⟨oc12, od12, .func (PySem.W.fnOf "line_of" "line_of" (defArgs sLineOf) (defBody sLineOf) (defScope sLineOf) .none kV12 dc12 pm12 an12 cd12 ct12), sl12⟩)
    (c12 : PySem.W.codeIn K cd12 "line_of" = true)
    (k12 : PySem.W.keepIn K (.ref f12) = true)
    (a13 : PySem.W.nsIn K mainGlobals "first_deeds" = some (some (.ref f13)))
    (l13 : K.lookup f13 = some ⟨oc13, od13, .func (PySem.W.fnOf "first_deeds" "first_deeds" (defArgs sFirst) (defBody sFirst) (defScope sFirst) .none kV13 dc13 pm13 an13 cd13 ct13), sl13⟩)
    (c13 : PySem.W.codeIn K cd13 "first_deeds" = true)
    (k13 : PySem.W.keepIn K (.ref f13) = true)
    (a14 : PySem.W.nsIn K mainGlobals "all_places" = some (some (.ref f14)))
    (l14 : K.lookup f14 = some ⟨oc14, od14, .func (PySem.W.fnOf "all_places" "all_places" (defArgs sAllPl) (defBody sAllPl) (defScope sAllPl) .none kV14 dc14 pm14 an14 cd14 ct14), sl14⟩)
    (c14 : PySem.W.codeIn K cd14 "all_places" = true)
    (k14 : PySem.W.keepIn K (.ref f14) = true)
    (a15 : PySem.W.nsIn K mainGlobals "all_elder_ties" = some (some (.ref f15)))
    (l15 : K.lookup f15 = some ⟨oc15, od15, .func (PySem.W.fnOf "all_elder_ties" "all_elder_ties" (defArgs sAllEl) (defBody sAllEl) (defScope sAllEl) .none kV15 dc15 pm15 an15 cd15 ct15), sl15⟩)
    (c15 : PySem.W.codeIn K cd15 "all_elder_ties" = true)
    (k15 : PySem.W.keepIn K (.ref f15) = true)
    (a16 : PySem.W.nsIn K mainGlobals "elder_ties" = some (some (.ref f16)))
    (l16 : K.lookup f16 = some ⟨oc16, od16, .func (PySem.W.fnOf "elder_ties" "elder_ties" (defArgs sElTies) (defBody sElTies) (defScope sElTies) .none kV16 dc16 pm16 an16 cd16 ct16), sl16⟩)
    (c16 : PySem.W.codeIn K cd16 "elder_ties" = true)
    (k16 : PySem.W.keepIn K (.ref f16) = true)
    (a17 : PySem.W.nsIn K mainGlobals "is_wood_history" = some (some (.ref f17)))
    (l17 : K.lookup f17 = some ⟨oc17, od17, .func (PySem.W.fnOf "is_wood_history" "is_wood_history" (defArgs sIsWoodH) (defBody sIsWoodH) (defScope sIsWoodH) .none kV17 dc17 pm17 an17 cd17 ct17), sl17⟩)
    (c17 : PySem.W.codeIn K cd17 "is_wood_history" = true)
    (k17 : PySem.W.keepIn K (.ref f17) = true)
    (a18 : PySem.W.nsIn K mainGlobals "figures" = some (some (.ref f18)))
    (l18 : K.lookup f18 = some ⟨oc18, od18, .func (PySem.W.fnOf "figures" "figures" (defArgs sFig) (defBody sFig) (defScope sFig) .none kV18 dc18 pm18 an18 cd18 ct18), sl18⟩)
    (c18 : PySem.W.codeIn K cd18 "figures" = true)
    (k18 : PySem.W.keepIn K (.ref f18) = true)
    (a19 : PySem.W.nsIn K mainGlobals "_law_pot" = some (some (.ref f19)))
    (l19 : K.lookup f19 = some ⟨oc19, od19, .func (PySem.W.fnOf "_law_pot" "_law_pot" (defArgs sPot) (defBody sPot) (defScope sPot) .none kV19 dc19 pm19 an19 cd19 ct19), sl19⟩)
    (c19 : PySem.W.codeIn K cd19 "_law_pot" = true)
    (k19 : PySem.W.keepIn K (.ref f19) = true)
    (a20 : PySem.W.nsIn K mainGlobals "_law_take" = some (some (.ref f20)))
    (l20 : K.lookup f20 = some ⟨oc20, od20, .func (PySem.W.fnOf "_law_take" "_law_take" (defArgs sTake) (defBody sTake) (defScope sTake) .none kV20 dc20 pm20 an20 cd20 ct20), sl20⟩)
    (c20 : PySem.W.codeIn K cd20 "_law_take" = true)
    (k20 : PySem.W.keepIn K (.ref f20) = true)
    (a21 : PySem.W.nsIn K mainGlobals "_law_of" = some (some (.ref f21)))
    (l21 : K.lookup f21 = some ⟨oc21, od21, .func (PySem.W.fnOf "_law_of" "_law_of" (defArgs sOf) (defBody sOf) (defScope sOf) .none kV21 dc21 pm21 an21 cd21 ct21), sl21⟩)
    (c21 : PySem.W.codeIn K cd21 "_law_of" = true)
    (k21 : PySem.W.keepIn K (.ref f21) = true)
    (a22 : PySem.W.nsIn K mainGlobals "_law_some" = some (some (.ref f22)))
    (l22 : K.lookup f22 = some ⟨oc22, od22, .func (PySem.W.fnOf "_law_some" "_law_some" (defArgs sSome) (defBody sSome) (defScope sSome) .none kV22 dc22 pm22 an22 cd22 ct22), sl22⟩)
    (c22 : PySem.W.codeIn K cd22 "_law_some" = true)
    (k22 : PySem.W.keepIn K (.ref f22) = true)
    (a23 : PySem.W.nsIn K mainGlobals "_law_cells" = some (some (.ref f23)))
    (l23 : K.lookup f23 = some ⟨oc23, od23, .func (PySem.W.fnOf "_law_cells" "_law_cells" (defArgs sCells) (defBody sCells) (defScope sCells) .none kV23 dc23 pm23 an23 cd23 ct23), sl23⟩)
    (c23 : PySem.W.codeIn K cd23 "_law_cells" = true)
    (k23 : PySem.W.keepIn K (.ref f23) = true)
    (a24 : PySem.W.nsIn K mainGlobals "_law_names" = some (some (.ref f24)))
    (l24 : K.lookup f24 = some ⟨oc24, od24, .func (PySem.W.fnOf "_law_names" "_law_names" (defArgs sNames) (defBody sNames) (defScope sNames) .none kV24 dc24 pm24 an24 cd24 ct24), sl24⟩)
    (c24 : PySem.W.codeIn K cd24 "_law_names" = true)
    (k24 : PySem.W.keepIn K (.ref f24) = true)
    (a25 : PySem.W.nsIn K mainGlobals "_law_tie" = some (some (.ref f25)))
    (l25 : K.lookup f25 = some ⟨oc25, od25, .func (PySem.W.fnOf "_law_tie" "_law_tie" (defArgs sTie) (defBody sTie) (defScope sTie) .none kV25 dc25 pm25 an25 cd25 ct25), sl25⟩)
    (c25 : PySem.W.codeIn K cd25 "_law_tie" = true)
    (k25 : PySem.W.keepIn K (.ref f25) = true)
    (a26 : PySem.W.nsIn K mainGlobals "_law_history_text" = some (some (.ref f26)))
    (l26 : K.lookup f26 = some ⟨oc26, od26, .func (PySem.W.fnOf "_law_history_text" "_law_history_text" (defArgs sHText) (defBody sHText) (defScope sHText) .none kV26 dc26 pm26 an26 cd26 ct26), sl26⟩)
    (c26 : PySem.W.codeIn K cd26 "_law_history_text" = true)
    (k26 : PySem.W.keepIn K (.ref f26) = true)
    (a27 : PySem.W.nsIn K mainGlobals "_law_living" = some (some (.ref f27)))
    (l27 : K.lookup f27 = some ⟨oc27, od27, .func (PySem.W.fnOf "_law_living" "_law_living" (defArgs sLiving) (defBody sLiving) (defScope sLiving) .none kV27 dc27 pm27 an27 cd27 ct27), sl27⟩)
    (c27 : PySem.W.codeIn K cd27 "_law_living" = true)
    (k27 : PySem.W.keepIn K (.ref f27) = true)
    (a28 : PySem.W.nsIn K mainGlobals "_law_elder" = some (some (.ref f28)))
    (l28 : K.lookup f28 = some ⟨oc28, od28, .func (PySem.W.fnOf "_law_elder" "_law_elder" (defArgs sElder) (defBody sElder) (defScope sElder) .none kV28 dc28 pm28 an28 cd28 ct28), sl28⟩)
    (c28 : PySem.W.codeIn K cd28 "_law_elder" = true)
    (k28 : PySem.W.keepIn K (.ref f28) = true)
    (a29 : PySem.W.nsIn K mainGlobals "_law_counts" = some (some (.ref f29)))
    (l29 : K.lookup f29 = some ⟨oc29, od29, .func (PySem.W.fnOf "_law_counts" "_law_counts" (defArgs sCounts) (defBody sCounts) (defScope sCounts) .none kV29 dc29 pm29 an29 cd29 ct29), sl29⟩)
    (c29 : PySem.W.codeIn K cd29 "_law_counts" = true)
    (k29 : PySem.W.keepIn K (.ref f29) = true)
    (a30 : PySem.W.nsIn K mainGlobals "_law_come_ties" = some (some (.ref f30)))
    (l30 : K.lookup f30 = some ⟨oc30, od30, .func (PySem.W.fnOf "_law_come_ties" "_law_come_ties" (defArgs sComeT) (defBody sComeT) (defScope sComeT) .none kV30 dc30 pm30 an30 cd30 ct30), sl30⟩)
    (c30 : PySem.W.codeIn K cd30 "_law_come_ties" = true)
    (k30 : PySem.W.keepIn K (.ref f30) = true)
    (a31 : PySem.W.nsIn K mainGlobals "_law_shape_ties" = some (some (.ref f31)))
    (l31 : K.lookup f31 = some ⟨oc31, od31, .func (PySem.W.fnOf "_law_shape_ties" "_law_shape_ties" (defArgs sShape) (defBody sShape) (defScope sShape) .none kV31 dc31 pm31 an31 cd31 ct31), sl31⟩)
    (c31 : PySem.W.codeIn K cd31 "_law_shape_ties" = true)
    (k31 : PySem.W.keepIn K (.ref f31) = true)
    (a32 : PySem.W.nsIn K mainGlobals "_law_grown" = some (some (.ref f32)))
    (l32 : K.lookup f32 = some ⟨oc32, od32, .func (PySem.W.fnOf "_law_grown" "_law_grown" (defArgs sGrown) (defBody sGrown) (defScope sGrown) .none kV32 dc32 pm32 an32 cd32 ct32), sl32⟩)
    (c32 : PySem.W.codeIn K cd32 "_law_grown" = true)
    (k32 : PySem.W.keepIn K (.ref f32) = true)
    (a33 : PySem.W.nsIn K mainGlobals "_law_next_dead" = some (some (.ref f33)))
    (l33 : K.lookup f33 = some ⟨oc33, od33, .func (PySem.W.fnOf "_law_next_dead" "_law_next_dead" (defArgs sNextD) (defBody sNextD) (defScope sNextD) .none kV33 dc33 pm33 an33 cd33 ct33), sl33⟩)
    (c33 : PySem.W.codeIn K cd33 "_law_next_dead" = true)
    (k33 : PySem.W.keepIn K (.ref f33) = true)
    (a34 : PySem.W.nsIn K mainGlobals "_law_history" = some (some (.ref f34)))
    (l34 : K.lookup f34 = some ⟨oc34, od34, .func (PySem.W.fnOf "_law_history" "_law_history" (defArgs sHist) (defBody sHist) (defScope sHist) .none kV34 dc34 pm34 an34 cd34 ct34), sl34⟩)
    (c34 : PySem.W.codeIn K cd34 "_law_history" = true)
    (k34 : PySem.W.keepIn K (.ref f34) = true)
    (a35 : PySem.W.nsIn K mainGlobals "_law_figures" = some (some (.ref f35)))
    (l35 : K.lookup f35 = some ⟨oc35, od35, .func (PySem.W.fnOf "_law_figures" "_law_figures" (defArgs sLFig) (defBody sLFig) (defScope sLFig) .none kV35 dc35 pm35 an35 cd35 ct35), sl35⟩)
    (c35 : PySem.W.codeIn K cd35 "_law_figures" = true)
    (k35 : PySem.W.keepIn K (.ref f35) = true)
    (a36 : PySem.W.nsIn K mainGlobals "_law_right" = some (some (.ref f36)))
    (l36 : K.lookup f36 = some ⟨oc36, od36, .func (PySem.W.fnOf "_law_right" "_law_right" (defArgs sRight) (defBody sRight) (defScope sRight) .none kV36 dc36 pm36 an36 cd36 ct36), sl36⟩)
    (c36 : PySem.W.codeIn K cd36 "_law_right" = true)
    (k36 : PySem.W.keepIn K (.ref f36) = true)
    (a37 : PySem.W.nsIn K mainGlobals "law" = some (some (.ref f37)))
    (l37 : K.lookup f37 = some ⟨oc37, od37, .func (PySem.W.fnOf "law" "law" (defArgs sLaw) (defBody sLaw) (defScope sLaw) .none kV37 dc37 pm37 an37 cd37 ct37), sl37⟩)
    (c37 : PySem.W.codeIn K cd37 "law" = true)
    (k37 : PySem.W.keepIn K (.ref f37) = true)
    (aC : PySem.W.nsIn K mainGlobals "History" = some (some (.ref C)))
    (aCm0 : PySem.W.findIn K (.ref C) "__init__" = some (some (.ref fCm0)))
    (lCm0 : K.lookup fCm0 = some ⟨ocCm0, odCm0, .func (PySem.W.fnOf "__init__" "History.__init__" (defArgs sInitH) (defBody sInitH) (defScope sInitH) .none kVCm0 dcCm0 pmCm0 anCm0 cdCm0 ctCm0), slCm0⟩)
    (cCm0 : PySem.W.codeIn K cdCm0 "History.__init__" = true)
    (kCm0 : PySem.W.keepIn K (.ref fCm0) = true)
    (iCm0 : PySem.W.isFn K (.ref fCm0) = true)
    (aCm1 : PySem.W.findIn K (.ref C) "__len__" = some (some (.ref fCm1)))
    (lCm1 : K.lookup fCm1 = some ⟨ocCm1, odCm1, .func (PySem.W.fnOf "__len__" "History.__len__" (defArgs sLenH) (defBody sLenH) (defScope sLenH) .none kVCm1 dcCm1 pmCm1 anCm1 cdCm1 ctCm1), slCm1⟩)
    (cCm1 : PySem.W.codeIn K cdCm1 "History.__len__" = true)
    (kCm1 : PySem.W.keepIn K (.ref fCm1) = true)
    (iCm1 : PySem.W.isFn K (.ref fCm1) = true)
    (pgC : PySem.W.plainGet K C Str.empty = true)
    (hdC : PySem.W.hasDictIn K C = true)
    (poC : PySem.W.plainOver K C = true)
    (saC : PySem.W.findIn K (.ref C) "__setattr__" = some (some (.builtin "object.__setattr__")))
    (mkC : PySem.W.makesIn K C = true)
    (kCC : PySem.W.keepIn K (.ref C) = true)
    (eNC : PySem.W.findIn K (.ref C) "__ne__" = some (some (.builtin "object.__ne__")))
    (eHC : PySem.W.findIn K (.ref C) "__class__" = some (some (.builtin "object.__class__")))
    (eMC : PySem.W.mroIn K C (.type "object") = some true)
    (eYC : PySem.W.typeIn K (.ref C) = some (.type "type"))
    (nC_text : PySem.W.findIn K (.ref C) "text" = some none)
    (nC_deeds : PySem.W.findIn K (.ref C) "deeds" = some none)
    (nC_living : PySem.W.findIn K (.ref C) "living" = some none)
    (nC_dead : PySem.W.findIn K (.ref C) "dead" = some none)
    (fCS_ : PySem.W.notFirst K C (.type "str") = true)
    (fCN_ : PySem.W.notFirst K C (.type "NoneType") = true)
    (fCT_ : PySem.W.notFirst K C (.type "tuple") = true)
    (fCI_ : PySem.W.notFirst K C (.type "int") = true)
    (eG : PySem.W.specialIn K (.builtin "object.__class__") "__get__" = some (some (.builtin "getset_descriptor.__get__")))
    (eT : PySem.W.takesIn K (.builtin "object.__class__") = some true)
    (g_LONGEST_NAME : PySem.W.nsIn K mainGlobals "LONGEST_NAME" = some (some (.int 8 tL)))
    (g_MOST_PLACES : PySem.W.nsIn K mainGlobals "MOST_PLACES" = some (some (.int 200 tM)))
    (g_MOST_DEEDS : PySem.W.nsIn K mainGlobals "MOST_DEEDS" = some (some (.int 400 tD)))
    (g_MOST_FIGURED : PySem.W.nsIn K mainGlobals "MOST_FIGURED" = some (some (.int 1000000 tF)))
    (z0 : PySem.W.nsIn K mainGlobals "len" = some none)
    (z1 : PySem.W.nsIn K mainGlobals "sum" = some none)
    (z2 : PySem.W.nsIn K mainGlobals "int" = some none)
    (z3 : PySem.W.nsIn K mainGlobals "abs" = some none)
    (z4 : PySem.W.nsIn K mainGlobals "list" = some none)
    (z5 : PySem.W.nsIn K mainGlobals "range" = some none)
    (z6 : PySem.W.nsIn K mainGlobals "max" = some none)
    (z7 : PySem.W.nsIn K mainGlobals "min" = some none)
    (z8 : PySem.W.nsIn K mainGlobals "isinstance" = some none)
    (z9 : PySem.W.nsIn K mainGlobals "str" = some none)
    (z10 : PySem.W.nsIn K mainGlobals "tuple" = some none)
    (z11 : PySem.W.nsIn K mainGlobals "all" = some none)
    (z12 : PySem.W.nsIn K mainGlobals "zip" = some none)
    (z13 : PySem.W.nsIn K mainGlobals "enumerate" = some none)
    (z14 : PySem.W.nsIn K mainGlobals "dict" = some none)
    (z15 : PySem.W.nsIn K mainGlobals "sorted" = some none)
    (z16 : PySem.W.nsIn K mainGlobals "repr" = some none)
    (z17 : PySem.W.nsIn K mainGlobals "bool" = some none)
    : ∃ fd : FuncData, (∀ (s : Shared) (v : Value), BindsTo s fd ⟨[v], []⟩ [("script", v)]) ∧ ∀ base : Heap, K.In base → base.Ns mainGlobals mg → FnG P w K mg base CX0 10 fa fd ["script"] (spLaw K) := by
  have e := hfa.symm.trans (PySem.W.mg_of X G a37)
  cases e
  have B : Blt mg := ⟨PySem.W.mg_none_of X G z0, PySem.W.mg_none_of X G z1, PySem.W.mg_none_of X G z2, PySem.W.mg_none_of X G z3, PySem.W.mg_none_of X G z4, PySem.W.mg_none_of X G z5, PySem.W.mg_none_of X G z6, PySem.W.mg_none_of X G z7⟩
  have B3 : Blt3 mg := ⟨PySem.W.mg_none_of X G z8, PySem.W.mg_none_of X G z9, PySem.W.mg_none_of X G z10, PySem.W.mg_none_of X G z11, PySem.W.mg_none_of X G z12, PySem.W.mg_none_of X G z13, PySem.W.mg_none_of X G z14, PySem.W.mg_none_of X G z15, ⟨_, PySem.W.mg_of X G g_LONGEST_NAME⟩, ⟨_, PySem.W.mg_of X G g_MOST_PLACES⟩⟩
  have T : TxtH K mg C := ⟨⟨pgC, hdC, poC, saC⟩, nC_text, nC_deeds, nC_living, nC_dead, PySem.W.mg_of X G aC⟩
  have M : Mk K C fCm0 := ⟨mkC, aCm0, iCm0, kCC⟩
  have M1 : Meth K C "__len__" fCm1 := ⟨aCm1, iCm1, kCm1⟩
  have Cq : ClsQ K mg C := ⟨eHC, eG, eT, eMC, kit_no hdC eYC (sub_bt (l := [.type "str", .type "object"]) (by decide +kernel) (by simp)), kit_no hdC eYC (sub_bt (l := [.type "NoneType", .type "object"]) (by decide +kernel) (by simp)), kit_no hdC eYC (sub_bt (l := [.type "tuple", .type "object"]) (by decide +kernel) (by simp)), kit_no hdC eYC (sub_bt (l := [.type "int", .type "object"]) (by decide +kernel) (by simp)), fCS_, fCN_, fCT_, fCI_⟩
  have F0 := fun_mk (st := sIsName) l0 c0 k0
  have b0 := F0.binds (ps := ["value"]) fun _ _ _ _ _ _ us hl => match us, hl with | [_], _ => rfl
  have F1 := fun_mk (st := sWithin) l1 c1 k1
  have b1 := F1.binds (ps := ["value", "least", "most"]) fun _ _ _ _ _ _ us hl => match us, hl with | [_, _, _], _ => rfl
  have F2 := fun_mk (st := sAsc) l2 c2 k2
  have b2 := F2.binds (ps := ["values"]) fun _ _ _ _ _ _ us hl => match us, hl with | [_], _ => rfl
  have F3 := fun_mk (st := sPair) l3 c3 k3
  have b3 := F3.binds (ps := ["one", "other"]) fun _ _ _ _ _ _ us hl => match us, hl with | [_, _], _ => rfl
  have F4 := fun_mk (st := sIsLiv) l4 c4 k4
  have b4 := F4.binds (ps := ["value", "lives"]) fun _ _ _ _ _ _ us hl => match us, hl with | [_, _], _ => rfl
  have F5 := fun_mk (st := sAreLiv) l5 c5 k5
  have b5 := F5.binds (ps := ["value", "lives"]) fun _ _ _ _ _ _ us hl => match us, hl with | [_, _], _ => rfl
  have F6 := fun_mk (st := sCanCome) l6 c6 k6
  have b6 := F6.binds (ps := ["name", "ties", "lives"]) fun _ _ _ _ _ _ us hl => match us, hl with | [_, _, _], _ => rfl
  have F7 := fun_mk (st := sCanStand) l7 c7 k7
  have b7 := F7.binds (ps := ["value", "lives", "many"]) fun _ _ _ _ _ _ us hl => match us, hl with | [_, _, _], _ => rfl
  have F8 := fun_mk (st := sReadD1) l8 c8 k8
  have b8 := F8.binds (ps := ["line"]) fun _ _ _ _ _ _ us hl => match us, hl with | [_], _ => rfl
  have F9 := fun_mk (st := sReadDs) l9 c9 k9
  have b9 := F9.binds (ps := ["text"]) fun _ _ _ _ _ _ us hl => match us, hl with | [_], _ => rfl
  have F10 := fun_mk (st := sLivesB) l10 c10 k10
  have b10 := F10.binds (ps := ["deeds"]) fun _ _ _ _ _ _ us hl => match us, hl with | [_], _ => rfl
  have F11 := fun_mk (st := sNamesT) l11 c11 k11
  have b11 := F11.binds (ps := ["live", "lives"]) fun _ _ _ _ _ _ us hl => match us, hl with | [_, _], _ => rfl
  have F12 := fun_mk (st := sLineOf) l12 c12 k12
  have b12 := F12.binds (ps := ["deed"]) fun _ _ _ _ _ _ us hl => match us, hl with | [_], _ => rfl
  have F13 := fun_mk (st := sFirst) l13 c13 k13
  have b13 := F13.binds (ps := ["history", "many"]) fun _ _ _ _ _ _ us hl => match us, hl with | [_, _], _ => rfl
  have F14 := fun_mk (st := sAllPl) l14 c14 k14
  have b14 := F14.binds (ps := ["history"]) fun _ _ _ _ _ _ us hl => match us, hl with | [_], _ => rfl
  have F15 := fun_mk (st := sAllEl) l15 c15 k15
  have b15 := F15.binds (ps := ["history"]) fun _ _ _ _ _ _ us hl => match us, hl with | [_], _ => rfl
  have F16 := fun_mk (st := sElTies) l16 c16 k16
  have b16 := F16.binds (ps := ["history", "name"]) fun _ _ _ _ _ _ us hl => match us, hl with | [_, _], _ => rfl
  have F17 := fun_mk (st := sIsWoodH) l17 c17 k17
  have b17 := F17.binds (ps := ["history"]) fun _ _ _ _ _ _ us hl => match us, hl with | [_], _ => rfl
  have F18 := fun_mk (st := sFig) l18 c18 k18
  have b18 := F18.binds (ps := ["number"]) fun _ _ _ _ _ _ us hl => match us, hl with | [_], _ => rfl
  have F19 := fun_mk (st := sPot) l19 c19 k19
  have b19 := F19.binds (ps := ["script", "place"]) fun _ _ _ _ _ _ us hl => match us, hl with | [_, _], _ => rfl
  have F20 := fun_mk (st := sTake) l20 c20 k20
  have b20 := F20.binds (ps := ["pot", "upto"]) fun _ _ _ _ _ _ us hl => match us, hl with | [_, _], _ => rfl
  have F21 := fun_mk (st := sOf) l21 c21 k21
  have b21 := F21.binds (ps := ["pot", "some"]) fun _ _ _ _ _ _ us hl => match us, hl with | [_, _], _ => rfl
  have F22 := fun_mk (st := sSome) l22 c22 k22
  have b22 := F22.binds (ps := ["pot", "pool", "many"]) fun _ _ _ _ _ _ us hl => match us, hl with | [_, _, _], _ => rfl
  have F23 := fun_mk (st := sCells) l23 c23 k23
  have b23 := F23.binds (ps := ["script", "most"]) fun _ _ _ _ _ _ us hl => match us, hl with | [_, _], _ => rfl
  have F24 := fun_mk (st := sNames) l24 c24 k24
  have b24 := F24.binds (ps := ["pot", "many"]) fun _ _ _ _ _ _ us hl => match us, hl with | [_, _], _ => rfl
  have F25 := fun_mk (st := sTie) l25 c25 k25
  have b25 := F25.binds (ps := ["one", "other"]) fun _ _ _ _ _ _ us hl => match us, hl with | [_, _], _ => rfl
  have F26 := fun_mk (st := sHText) l26 c26 k26
  have b26 := F26.binds (ps := ["deeds"]) fun _ _ _ _ _ _ us hl => match us, hl with | [_], _ => rfl
  have F27 := fun_mk (st := sLiving) l27 c27 k27
  have b27 := F27.binds (ps := ["deeds"]) fun _ _ _ _ _ _ us hl => match us, hl with | [_], _ => rfl
  have F28 := fun_mk (st := sElder) l28 c28 k28
  have b28 := F28.binds (ps := ["deeds"]) fun _ _ _ _ _ _ us hl => match us, hl with | [_], _ => rfl
  have F29 := fun_mk (st := sCounts) l29 c29 k29
  have b29 := F29.binds (ps := ["deeds"]) fun _ _ _ _ _ _ us hl => match us, hl with | [_], _ => rfl
  have F30 := fun_mk (st := sComeT) l30 c30 k30
  have b30 := F30.binds (ps := ["pot", "living", "wood"]) fun _ _ _ _ _ _ us hl => match us, hl with | [_, _, _], _ => rfl
  have F31 := fun_mk (st := sShape) l31 c31 k31
  have b31 := F31.binds (ps := ["pot", "here", "shape", "wide", "wood"]) fun _ _ _ _ _ _ us hl => match us, hl with | [_, _, _, _, _], _ => rfl
  have F32 := fun_mk (st := sGrown) l32 c32 k32
  have b32 := F32.binds (ps := ["pot", "names", "wood"]) fun _ _ _ _ _ _ us hl => match us, hl with | [_, _, _], _ => rfl
  have F33 := fun_mk (st := sNextD) l33 c33 k33
  have b33 := F33.binds (ps := ["pot", "deeds", "living", "way"]) fun _ _ _ _ _ _ us hl => match us, hl with | [_, _, _, _], _ => rfl
  have F34 := fun_mk (st := sHist) l34 c34 k34
  have b34 := F34.binds (ps := ["pot", "places", "more", "wood"]) fun _ _ _ _ _ _ us hl => match us, hl with | [_, _, _, _], _ => rfl
  have F35 := fun_mk (st := sLFig) l35 c35 k35
  have b35 := F35.binds (ps := ["number"]) fun _ _ _ _ _ _ us hl => match us, hl with | [_], _ => rfl
  have F36 := fun_mk (st := sRight) l36 c36 k36
  have b36 := F36.binds (ps := ["pot"]) fun _ _ _ _ _ _ us hl => match us, hl with | [_], _ => rfl
  have F37 := fun_mk (st := sLaw) l37 c37 k37
  have b37 := F37.binds (ps := ["script"]) fun _ _ _ _ _ _ us hl => match us, hl with | [_], _ => rfl
  have FCm0 := fun_mk (st := sInitH) lCm0 cCm0 kCm0
  have bCm0 := FCm0.binds (ps := ["self", "text"]) fun _ _ _ _ _ _ us hl => match us, hl with | [_, _], _ => rfl
  have FCm1 := fun_mk (st := sLenH) lCm1 cCm1 kCm1
  have bCm1 := FCm1.binds (ps := ["self"]) fun _ _ _ _ _ _ us hl => match us, hl with | [_], _ => rfl
  refine ⟨PySem.W.fnOf "law" "law" (defArgs sLaw) (defBody sLaw) (defScope sLaw) .none kV37 dc37 pm37 an37 cd37 ct37, fun s v => .of_eq rfl, fun base _ _ => ?_⟩
  have G0 : FnOk P w K mg base CX0 1 f0 _ ["value"] spIsName := ok_isname F0 B B3
  have G1 : FnOk P w K mg base CX0 1 f1 _ ["value", "least", "most"] spWithin := ok_within F1 B (PySem.W.mg_none_of X G z8) (PySem.W.mg_none_of X G z17)
  have G2 : FnOk P w K mg base CX0 1 f2 _ ["values"] (spAsc K) := ok_asc F2 B3
  have G3 : FnOk P w K mg base CX0 1 f3 _ ["one", "other"] spTie := ok_pair F3
  have hM : ∃ t, mg "MOST_DEEDS" = some (.int 400 t) := ⟨_, PySem.W.mg_of X G g_MOST_DEEDS⟩
  have G4 : FnOk P w K mg base CX0 1 f4 _ ["value", "lives"] spIsLiv := ok_isliv F4 B3
  have G5 : FnOk P w K mg base CX0 2 f5 _ ["value", "lives"] spAreLiv := ok_areliv F5 B3 G4 (PySem.W.mg_of X G a4) k4 b4 G2 (PySem.W.mg_of X G a2) k2 b2
  have G6 : FnOk P w K mg base CX0 3 f6 _ ["name", "ties", "lives"] spCanCome := ok_cancome F6 B B3 (G0.mono (show 1 ≤ 2 by decide)) (PySem.W.mg_of X G a0) k0 b0 G5 (PySem.W.mg_of X G a5) k5 b5
  have G7 : FnOk P w K mg base CX0 4 f7 _ ["value", "lives", "many"] spCanStand := ok_canstand F7 B B3 hM G6 (PySem.W.mg_of X G a6) k6 b6 (G4.mono (show 1 ≤ 3 by decide)) (PySem.W.mg_of X G a4) k4 b4
  have G8 : FnOk P w K mg base CX0 1 f8 _ ["line"] spReadD1 := ok_readd1 F8 B B3
  have G9 : FnOk P w K mg base CX0 5 f9 _ ["text"] spReadDs := ok_readds F9 B B3 (G8.mono (show 1 ≤ 4 by decide)) (PySem.W.mg_of X G a8) k8 b8 G7 (PySem.W.mg_of X G a7) k7 b7
  have G10 : FnOk P w K mg base CX0 1 f10 _ ["deeds"] spLivesB := ok_livesb F10
  have G11 : FnOk P w K mg base CX0 1 f11 _ ["live", "lives"] spNamesT := ok_namest F11 B3.sorted B3.tuple
  have G12 : FnOk P w K mg base CX0 1 f12 _ ["deed"] spLineOf := ok_lineof F12
  have GI : FnOk P w K mg base CX0 6 fCm0 _ ["self", "text"] (spInitH C) := ok_initH FCm0 T G9 (PySem.W.mg_of X G a9) k9 b9 (G10.mono (show 1 ≤ 5 by decide)) (PySem.W.mg_of X G a10) k10 b10 (G11.mono (show 1 ≤ 5 by decide)) (PySem.W.mg_of X G a11) k11 b11
  have GZ : FnOk P w K mg base CX0 1 fCm1 _ ["self"] (spLenH C) := ok_lenH FCm1 T B
  have GZ6 := GZ.mono (show 1 ≤ 6 by decide)
  have G13 : FnOk P w K mg base CX0 8 f13 _ ["history", "many"] (spFirst C) := ok_first (j := 6) (by decide) F13 B T M (G1.mono (show 1 ≤ 7 by decide)) (PySem.W.mg_of X G a1) k1 b1 (G12.mono (show 1 ≤ 7 by decide)) (PySem.W.mg_of X G a12) k12 b12 GI bCm0 M1 GZ6 bCm1
  have G14 : FnOk P w K mg base CX0 1 f14 _ ["history"] (spAllPl C) := ok_allpl F14 T B3.sorted B3.tuple
  have G15 : FnOk P w K mg base CX0 2 f15 _ ["history"] (spAllEl C) := ok_allel F15 T B3.sorted G3 (PySem.W.mg_of X G a3) k3 b3
  have G16 : FnOk P w K mg base CX0 3 f16 _ ["history", "name"] (spElTies C) := ok_elties F16 B (G14.mono (show 1 ≤ 2 by decide)) (PySem.W.mg_of X G a14) k14 b14 G15 (PySem.W.mg_of X G a15) k15 b15
  have G17 : FnOk P w K mg base CX0 1 f17 _ ["history"] (spIsWoodH C) := ok_iswoodh F17 B T B3.all
  have G18 : FnOk P w K mg base CX0 2 f18 _ ["number"] spFig := ok_fig F18 ⟨_, PySem.W.mg_of X G g_MOST_FIGURED⟩ G1 (PySem.W.mg_of X G a1) k1 b1
  have G19 : FnOk P w K mg base CX0 1 f19 _ ["script", "place"] (spPot K) := ok_pot F19 B
  have G20 : FnOk P w K mg base CX0 1 f20 _ ["pot", "upto"] spTake := ok_take F20 B
  have G21 : FnOk P w K mg base CX0 2 f21 _ ["pot", "some"] (spOf2 K) := ok_of2 F21 B G20 (PySem.W.mg_of X G a20) k20 b20
  have G22 : FnOk P w K mg base CX0 2 f22 _ ["pot", "pool", "many"] spSome := ok_some F22 B G20 (PySem.W.mg_of X G a20) k20 b20
  have G23 : FnOk P w K mg base CX0 1 f23 _ ["script", "most"] (spCells K) := ok_cells F23 B
  have G24 : FnOk P w K mg base CX0 3 f24 _ ["pot", "many"] spNames := ok_names F24 B (G20.mono (show 1 ≤ 2 by decide)) (PySem.W.mg_of X G a20) k20 b20 G21 (PySem.W.mg_of X G a21) k21 b21
  have G25 : FnOk P w K mg base CX0 1 f25 _ ["one", "other"] spTie := ok_tie F25 B
  have G26 : FnOk P w K mg base CX0 1 f26 _ ["deeds"] spHText := ok_htext F26 B
  have G27 : FnOk P w K mg base CX0 1 f27 _ ["deeds"] spLiving := ok_living F27 B B3.sorted
  have G28 : FnOk P w K mg base CX0 2 f28 _ ["deeds"] spElder := ok_elder F28 B B3.sorted G25 (PySem.W.mg_of X G a25) k25 b25
  have G29 : FnOk P w K mg base CX0 1 f29 _ ["deeds"] spCounts := ok_counts F29 B
  have G30 : FnOk P w K mg base CX0 3 f30 _ ["pot", "living", "wood"] spComeT := ok_comeT F30 B B3.sorted B3.tuple (G20.mono (show 1 ≤ 2 by decide)) (PySem.W.mg_of X G a20) k20 b20 G21 (PySem.W.mg_of X G a21) k21 b21 G22 (PySem.W.mg_of X G a22) k22 b22
  have G31 : FnOk P w K mg base CX0 4 f31 _ ["pot", "here", "shape", "wide", "wood"] spShape := ok_shape F31 B B3.sorted B3.tuple G30 (PySem.W.mg_of X G a30) k30 b30
  have G32 : FnOk P w K mg base CX0 5 f32 _ ["pot", "names", "wood"] spGrown := ok_grown F32 (G20.mono (show 1 ≤ 4 by decide)) (PySem.W.mg_of X G a20) k20 b20 G31 (PySem.W.mg_of X G a31) k31 b31
  have G33 : FnOk P w K mg base CX0 3 f33 _ ["pot", "deeds", "living", "way"] spNextD := ok_nextd F33 B B3.sorted B3.dict G21 (PySem.W.mg_of X G a21) k21 b21 (G29.mono (show 1 ≤ 2 by decide)) (PySem.W.mg_of X G a29) k29 b29 G28 (PySem.W.mg_of X G a28) k28 b28
  have G34 : FnOk P w K mg base CX0 6 f34 _ ["pot", "places", "more", "wood"] spHist := ok_hist F34 B (G20.mono (show 1 ≤ 5 by decide)) (PySem.W.mg_of X G a20) k20 b20 (G21.mono (show 2 ≤ 5 by decide)) (PySem.W.mg_of X G a21) k21 b21 (G24.mono (show 3 ≤ 5 by decide)) (PySem.W.mg_of X G a24) k24 b24 G32 (PySem.W.mg_of X G a32) k32 b32 (G27.mono (show 1 ≤ 5 by decide)) (PySem.W.mg_of X G a27) k27 b27 (G30.mono (show 3 ≤ 5 by decide)) (PySem.W.mg_of X G a30) k30 b30 (G33.mono (show 3 ≤ 5 by decide)) (PySem.W.mg_of X G a33) k33 b33
  have G35 : FnOk P w K mg base CX0 1 f35 _ ["number"] spFig := ok_lfig F35 B
  have kb16 : KBinds K (PySem.W.fnOf "elder_ties" "elder_ties" (defArgs sElTies) (defBody sElTies) (defScope sElTies) .none kV16 dc16 pm16 an16 cd16 ct16) ["history", "name"] ["history", "name"] gSame gVSame := kbS2 fun s a b => .of_eq rfl
  have kb13 : KBinds K (PySem.W.fnOf "first_deeds" "first_deeds" (defArgs sFirst) (defBody sFirst) (defScope sFirst) .none kV13 dc13 pm13 an13 cd13 ct13) ["history", "many"] ["history", "many"] gSame gVSame := kbS2 fun s a b => .of_eq rfl
  have kb17 : KBinds K (PySem.W.fnOf "is_wood_history" "is_wood_history" (defArgs sIsWoodH) (defBody sIsWoodH) (defScope sIsWoodH) .none kV17 dc17 pm17 an17 cd17 ct17) ["history"] ["history"] gSame gVSame := kbS1 fun s a => .of_eq rfl
  have kb18 : KBinds K (PySem.W.fnOf "figures" "figures" (defArgs sFig) (defBody sFig) (defScope sFig) .none kV18 dc18 pm18 an18 cd18 ct18) ["number"] ["number"] gSame gVSame := kbS1 fun s a => .of_eq rfl
  have G36 : FnG P w K mg base CX0 9 f36 _ ["pot"] spRight := ok_right (j := 6) (by decide) F36 B B3 (PySem.W.mg_none_of X G z16) T M Cq (G20.mono (show 1 ≤ 8 by decide)) (PySem.W.mg_of X G a20) k20 b20 (G34.mono (show 6 ≤ 8 by decide)) (PySem.W.mg_of X G a34) k34 b34 (G26.mono (show 1 ≤ 8 by decide)) (PySem.W.mg_of X G a26) k26 b26 (G29.mono (show 1 ≤ 8 by decide)) (PySem.W.mg_of X G a29) k29 b29 (G16.mono (show 3 ≤ 8 by decide)) (PySem.W.mg_of X G a16) k16 kb16 G13 (PySem.W.mg_of X G a13) k13 kb13 (G17.mono (show 1 ≤ 8 by decide)) (PySem.W.mg_of X G a17) k17 kb17 (G18.mono (show 2 ≤ 8 by decide)) (PySem.W.mg_of X G a18) k18 kb18 (G35.mono (show 1 ≤ 8 by decide)) (PySem.W.mg_of X G a35) k35 b35 GI bCm0
  exact ok_law F37 B B3.all (G19.mono (show 1 ≤ 9 by decide)) (PySem.W.mg_of X G a19) k19 b19 (G23.mono (show 1 ≤ 9 by decide)) (PySem.W.mg_of X G a23) k23 b23 G36 (PySem.W.mg_of X G a36) k36 b36
end Hw

set_option Elab.async false
open PySem PySem.W PyProof.Rows
set_option maxRecDepth 100000 in
set_option maxHeartbeats 0 in
theorem PySem.Challenge.cw_healedwebs_k08_first_deeds_elder_ties_an_holds : PySem.Challenge.rw_healedwebs_k08_first_deeds_elder_ties_an.Holds := by
  w_on; o_law; k_head; (case hw => w_witness2)
  k_fill
  refine Hw.walkG (l := PySem.Challenge.rw_healedwebs_k08_first_deeds_elder_ties_an) (n := 63) (k := 10) (x := "script") (sp := fun w => Hw.spLaw _) rfl (by decide) rfl ⟨rfl, by decide, by decide⟩ (fun w h Y => PySem.W.kIn_of Y) ?F (fun _ _ a ns hl _ hS => ⟨a, ns, rfl, hS, hl, fun _ => rfl⟩)
  case F =>
    intro w mg fa h KX G hmg
    refine' Hw.all_mk KX G hmg ?q_a0 ?q_l0 ?q_c0 ?q_k0 ?q_a1 ?q_l1 ?q_c1 ?q_k1 ?q_a2 ?q_l2 ?q_c2 ?q_k2 ?q_a3 ?q_l3 ?q_c3 ?q_k3 ?q_a4 ?q_l4 ?q_c4 ?q_k4 ?q_a5 ?q_l5 ?q_c5 ?q_k5 ?q_a6 ?q_l6 ?q_c6 ?q_k6 ?q_a7 ?q_l7 ?q_c7 ?q_k7 ?q_a8 ?q_l8 ?q_c8 ?q_k8 ?q_a9 ?q_l9 ?q_c9 ?q_k9 ?q_a10 ?q_l10 ?q_c10 ?q_k10 ?q_a11 ?q_l11 ?q_c11 ?q_k11 ?q_a12 ?q_l12 ?q_c12 ?q_k12 ?q_a13 ?q_l13 ?q_c13 ?q_k13 ?q_a14 ?q_l14 ?q_c14 ?q_k14 ?q_a15 ?q_l15 ?q_c15 ?q_k15 ?q_a16 ?q_l16 ?q_c16 ?q_k16 ?q_a17 ?q_l17 ?q_c17 ?q_k17 ?q_a18 ?q_l18 ?q_c18 ?q_k18 ?q_a19 ?q_l19 ?q_c19 ?q_k19 ?q_a20 ?q_l20 ?q_c20 ?q_k20 ?q_a21 ?q_l21 ?q_c21 ?q_k21 ?q_a22 ?q_l22 ?q_c22 ?q_k22 ?q_a23 ?q_l23 ?q_c23 ?q_k23 ?q_a24 ?q_l24 ?q_c24 ?q_k24 ?q_a25 ?q_l25 ?q_c25 ?q_k25 ?q_a26 ?q_l26 ?q_c26 ?q_k26 ?q_a27 ?q_l27 ?q_c27 ?q_k27 ?q_a28 ?q_l28 ?q_c28 ?q_k28 ?q_a29 ?q_l29 ?q_c29 ?q_k29 ?q_a30 ?q_l30 ?q_c30 ?q_k30 ?q_a31 ?q_l31 ?q_c31 ?q_k31 ?q_a32 ?q_l32 ?q_c32 ?q_k32 ?q_a33 ?q_l33 ?q_c33 ?q_k33 ?q_a34 ?q_l34 ?q_c34 ?q_k34 ?q_a35 ?q_l35 ?q_c35 ?q_k35 ?q_a36 ?q_l36 ?q_c36 ?q_k36 ?q_a37 ?q_l37 ?q_c37 ?q_k37 ?q_aC ?q_aCm0 ?q_lCm0 ?q_cCm0 ?q_kCm0 ?q_iCm0 ?q_aCm1 ?q_lCm1 ?q_cCm1 ?q_kCm1 ?q_iCm1 ?q_pgC ?q_hdC ?q_poC ?q_saC ?q_mkC ?q_kCC ?q_eNC ?q_eHC ?q_eMC ?q_eYC ?q_nC_text ?q_nC_deeds ?q_nC_living ?q_nC_dead ?q_fCS_ ?q_fCN_ ?q_fCT_ ?q_fCI_ ?q_eG ?q_eT ?q_g_LONGEST_NAME ?q_g_MOST_PLACES ?q_g_MOST_DEEDS ?q_g_MOST_FIGURED ?q_z0 ?q_z1 ?q_z2 ?q_z3 ?q_z4 ?q_z5 ?q_z6 ?q_z7 ?q_z8 ?q_z9 ?q_z10 ?q_z11 ?q_z12 ?q_z13 ?q_z14 ?q_z15 ?q_z16 ?q_z17
    (case q_a0 => k_is)
    (case q_a1 => k_is)
    (case q_a2 => k_is)
    (case q_a3 => k_is)
    (case q_a4 => k_is)
    (case q_a5 => k_is)
    (case q_a6 => k_is)
    (case q_a7 => k_is)
    (case q_a8 => k_is)
    (case q_a9 => k_is)
    (case q_a10 => k_is)
    (case q_a11 => k_is)
    (case q_a12 => k_is)
    (case q_a13 => k_is)
    (case q_a14 => k_is)
    (case q_a15 => k_is)
    (case q_a16 => k_is)
    (case q_a17 => k_is)
    (case q_a18 => k_is)
    (case q_a19 => k_is)
    (case q_a20 => k_is)
    (case q_a21 => k_is)
    (case q_a22 => k_is)
    (case q_a23 => k_is)
    (case q_a24 => k_is)
    (case q_a25 => k_is)
    (case q_a26 => k_is)
    (case q_a27 => k_is)
    (case q_a28 => k_is)
    (case q_a29 => k_is)
    (case q_a30 => k_is)
    (case q_a31 => k_is)
    (case q_a32 => k_is)
    (case q_a33 => k_is)
    (case q_a34 => k_is)
    (case q_a35 => k_is)
    (case q_a36 => k_is)
    (case q_a37 => k_is)
    (case q_aC => k_is)
    (case q_aCm0 => k_is)
    (case q_aCm1 => k_is)
    (case q_l0 => k_is)
    (case q_c0 => k_is)
    (case q_k0 => k_is)
    (case q_l1 => k_is)
    (case q_c1 => k_is)
    (case q_k1 => k_is)
    (case q_l2 => k_is)
    (case q_c2 => k_is)
    (case q_k2 => k_is)
    (case q_l3 => k_is)
    (case q_c3 => k_is)
    (case q_k3 => k_is)
    (case q_l4 => k_is)
    (case q_c4 => k_is)
    (case q_k4 => k_is)
    (case q_l5 => k_is)
    (case q_c5 => k_is)
    (case q_k5 => k_is)
    (case q_l6 => k_is)
    (case q_c6 => k_is)
    (case q_k6 => k_is)
    (case q_l7 => k_is)
    (case q_c7 => k_is)
    (case q_k7 => k_is)
    (case q_l8 => k_is)
    (case q_c8 => k_is)
    (case q_k8 => k_is)
    (case q_l9 => k_is)
    (case q_c9 => k_is)
    (case q_k9 => k_is)
    (case q_l10 => k_is)
    (case q_c10 => k_is)
    (case q_k10 => k_is)
    (case q_l11 => k_is)
    (case q_c11 => k_is)
    (case q_k11 => k_is)
    (case q_l12 => k_is)
    (case q_c12 => k_is)
    (case q_k12 => k_is)
    (case q_l13 => k_is)
    (case q_c13 => k_is)
    (case q_k13 => k_is)
    (case q_l14 => k_is)
    (case q_c14 => k_is)
    (case q_k14 => k_is)
    (case q_l15 => k_is)
    (case q_c15 => k_is)
    (case q_k15 => k_is)
    (case q_l16 => k_is)
    (case q_c16 => k_is)
    (case q_k16 => k_is)
    (case q_l17 => k_is)
    (case q_c17 => k_is)
    (case q_k17 => k_is)
    (case q_l18 => k_is)
    (case q_c18 => k_is)
    (case q_k18 => k_is)
    (case q_l19 => k_is)
    (case q_c19 => k_is)
    (case q_k19 => k_is)
    (case q_l20 => k_is)
    (case q_c20 => k_is)
    (case q_k20 => k_is)
    (case q_l21 => k_is)
    (case q_c21 => k_is)
    (case q_k21 => k_is)
    (case q_l22 => k_is)
    (case q_c22 => k_is)
    (case q_k22 => k_is)
    (case q_l23 => k_is)
    (case q_c23 => k_is)
    (case q_k23 => k_is)
    (case q_l24 => k_is)
    (case q_c24 => k_is)
    (case q_k24 => k_is)
    (case q_l25 => k_is)
    (case q_c25 => k_is)
    (case q_k25 => k_is)
    (case q_l26 => k_is)
    (case q_c26 => k_is)
    (case q_k26 => k_is)
    (case q_l27 => k_is)
    (case q_c27 => k_is)
    (case q_k27 => k_is)
    (case q_l28 => k_is)
    (case q_c28 => k_is)
    (case q_k28 => k_is)
    (case q_l29 => k_is)
    (case q_c29 => k_is)
    (case q_k29 => k_is)
    (case q_l30 => k_is)
    (case q_c30 => k_is)
    (case q_k30 => k_is)
    (case q_l31 => k_is)
    (case q_c31 => k_is)
    (case q_k31 => k_is)
    (case q_l32 => k_is)
    (case q_c32 => k_is)
    (case q_k32 => k_is)
    (case q_l33 => k_is)
    (case q_c33 => k_is)
    (case q_k33 => k_is)
    (case q_l34 => k_is)
    (case q_c34 => k_is)
    (case q_k34 => k_is)
    (case q_l35 => k_is)
    (case q_c35 => k_is)
    (case q_k35 => k_is)
    (case q_l36 => k_is)
    (case q_c36 => k_is)
    (case q_k36 => k_is)
    (case q_l37 => k_is)
    (case q_c37 => k_is)
    (case q_k37 => k_is)
    (case q_lCm0 => k_is)
    (case q_cCm0 => k_is)
    (case q_kCm0 => k_is)
    (case q_iCm0 => k_is)
    (case q_lCm1 => k_is)
    (case q_cCm1 => k_is)
    (case q_kCm1 => k_is)
    (case q_iCm1 => k_is)
    (case q_pgC => k_is)
    (case q_hdC => k_is)
    (case q_poC => k_is)
    (case q_saC => k_is)
    (case q_mkC => k_is)
    (case q_kCC => k_is)
    (case q_eNC => k_is)
    (case q_eHC => k_is)
    (case q_eMC => k_is)
    (case q_eYC => k_is)
    (case q_nC_text => k_is)
    (case q_nC_deeds => k_is)
    (case q_nC_living => k_is)
    (case q_nC_dead => k_is)
    (case q_fCS_ => k_is)
    (case q_fCN_ => k_is)
    (case q_fCT_ => k_is)
    (case q_fCI_ => k_is)
    (case q_eG => k_is)
    (case q_eT => k_is)
    (case q_g_LONGEST_NAME => k_is)
    (case q_g_MOST_PLACES => k_is)
    (case q_g_MOST_DEEDS => k_is)
    (case q_g_MOST_FIGURED => k_is)
    (case q_z0 => k_is)
    (case q_z1 => k_is)
    (case q_z2 => k_is)
    (case q_z3 => k_is)
    (case q_z4 => k_is)
    (case q_z5 => k_is)
    (case q_z6 => k_is)
    (case q_z7 => k_is)
    (case q_z8 => k_is)
    (case q_z9 => k_is)
    (case q_z10 => k_is)
    (case q_z11 => k_is)
    (case q_z12 => k_is)
    (case q_z13 => k_is)
    (case q_z14 => k_is)
    (case q_z15 => k_is)
    (case q_z16 => k_is)
    (case q_z17 => k_is)
