import PyProof.Rows.All
import Wide.All
import OpenK.AllK
import Wide.FinOn
import HandS.ForMost
import HandS.ForExc
import HandS.DictComp
import KE.KExcIs
import HandS.ExcInit
import HandS.ExcField
import HandS.IsInst
import HandS.SetFor
import HandS.Flow
import HandS.Walk
import HandS.Evl
import HandS.Conv
import HandS.OwnEq
import HandS.FStr
import HandS.Star
import KE.GoesEnumKw
import KE.SortData
import HandS.TupLe
import Flt.Ops
import HandS.Zip
import HandS.TupAny
import HandS.StrMore
import HandS.WordsDict
import PyProof.Rows.RegFStrParts
import HandS.Style
import HandS.More
import HandS.Text
import HandS.ExcValue
import KE.KDictZip
import PyProof.ListNew
import PySem.Challenge.RW_healedwebs_k03_whole_parts_and_farthest
set_option Elab.async false
set_option linter.all false
set_option maxRecDepth 100000
set_option maxHeartbeats 2000000
namespace Hw
open PySem L2 PyProof.Rows

/-! generic: powers of great ints, heaps but one place -/
def CPowW (i j : Int) : Prop := 0 ≤ j ∧ (Builtin.Int.intBits i : Int) * j ≤ 2 ^ 27
theorem op_powW {X : Cx} : OpR X (binaryOp .Pow) (rI CPowW fun i j => .int (i ^ j.toNat)) :=
  opI fun _ _ _ _ _ _ _ hc q => pow_int hc.1 hc.2 q
/-- all that is tracked but at a stays -/
def SameX (a : Addr) (H H' : Hp) : Prop := ∀ b o, b ≠ a → H b = some o → H' b = some o
theorem SameX.refl (a : Addr) (H : Hp) : SameX a H H := fun _ _ _ h => h
theorem SameX.trans {a : Addr} {H H1 H2 : Hp} (x : SameX a H H1) (y : SameX a H1 H2) : SameX a H H2 := fun b o hb h => y b o hb (x b o hb h)
theorem SameX.of {a : Addr} {H H' : Hp} (s : Same H H') : SameX a H H' := fun b o _ h => s b o h
theorem SameX.put {a : Addr} {H H' : Hp} {o : HO} (s : SameX a H H') : SameX a H (upd H' a o) := fun b u hb h => by
  rw [upd_ne hb]; exact s b u hb h
theorem SameX.free {a b : Addr} {H H' : Hp} (s : SameX a H H') (ha : H' a ≠ none) (h : H' b = none) : H b = none := by
  cases q : H b with
  | none => rfl
  | some o =>
    have hb : b ≠ a := fun e => ha (e ▸ h)
    rw [s b o hb q] at h; cases h
theorem same_upd {H : Hp} {p : Addr} {o : HO} (h : H p = none) : Same H (upd H p o) := fun b x e => by
  rw [upd_ne (ne_of_none e h)]; exact e
theorem sql_of {K : PySem.W.Frag} {H : Hp} {a : Addr} {xs : List V} (h : H a = some (.lst xs)) : SqL K H a xs := .inl (.inl h)
theorem sqt_of {K : PySem.W.Frag} {H : Hp} {a : Addr} {xs : List V} (h : H a = some (.tup xs)) : SqT K H a xs := .inl (.inl h)

/-! a pot: three ints, the third at most N -/
structure Pot (H : Hp) (a : Addr) (N : Nat) : Prop where
  ex : ∃ x y z : Int, H a = some (.lst [.int x, .int y, .int z]) ∧ 0 ≤ x ∧ 0 ≤ y ∧ y < 2 ^ 61 ∧ 0 ≤ z ∧ z ≤ N
theorem Pot.mono {H : Hp} {a : Addr} {N M : Nat} (p : Pot H a N) (h : N ≤ M) : Pot H a M := by
  obtain ⟨x, y, z, e, h1, h2, h3, h4, h5⟩ := p.ex
  exact ⟨x, y, z, e, h1, h2, h3, h4, by omega⟩
theorem Pot.same {H H' : Hp} {a : Addr} {N : Nat} (p : Pot H a N) (s : Same H H') : Pot H' a N := by
  obtain ⟨x, y, z, e, h⟩ := p.ex
  exact ⟨x, y, z, s _ _ e, h⟩
theorem Pot.some {H : Hp} {a : Addr} {N : Nat} (p : Pot H a N) : H a ≠ none := by
  obtain ⟨x, y, z, e, _⟩ := p.ex
  rw [e]; exact fun q => nomatch q
/-- what a place of the script is worth to a draw: any int -/
def spPot (K : PySem.W.Frag) : Sp := fun vs H Q _ => ∃ (a : Addr) (ns : List Int) (i : Int), vs = [.ref a, .int i] ∧ SqL K H a (ns.map V.int) ∧ ns.length ≤ 63 ∧ 0 ≤ i ∧ i < 1000 ∧
  ∀ p H', Same H H' → H p = none → Pot H' p 0 → Q (.ref p) H'
/-- a draw below u -/
def spTake : Sp := fun vs H Q _ => ∃ (a : Addr) (u : Int) (N : Nat), vs = [.ref a, .int u] ∧ Pot H a N ∧ N < 1000000000 ∧ 0 < u ∧ u < 1000000000 ∧
  ∀ r H', 0 ≤ r → r < u → SameX a H H' → Pot H' a (N + 1) → Q (.int r) H'
/-- one of the items of a list -/
def spOf (K : PySem.W.Frag) : Sp := fun vs H Q _ => ∃ (a b : Addr) (xs : List V) (N : Nat), vs = [.ref a, .ref b] ∧ Pot H a N ∧ N < 1000000000 ∧ SqL K H b xs ∧ a ≠ b ∧ 0 < xs.length ∧ xs.length < 1000000000 ∧
  ∀ (i : Nat) v H', xs[i]? = some v → SameX a H H' → Pot H' a (N + 1) → Q v H'
/-- the places of the script that are looked at -/
def spCells (K : PySem.W.Frag) : Sp := fun vs H Q _ => ∃ (a : Addr) (xs : List V) (m : Int), vs = [.ref a, .int m] ∧ SqL K H a xs ∧ xs.length ≤ 63 ∧ 0 < m ∧ m < 1000 ∧
  ∀ (n : Nat) p H', 0 < n → (n : Int) ≤ m → Same H H' → H p = none → H' p = some (.lst ((List.range n).map fun i : Nat => V.int (i : Int))) → Q (.ref p) H'
theorem bits_nat {i : Int} {n : Nat} (h : i.natAbs < 2 ^ n) : Builtin.Int.intBits i ≤ n := intBits_le h
end Hw

set_option Elab.async false
set_option linter.all false
set_option maxRecDepth 100000
set_option maxHeartbeats 4000000
namespace Hw
open PySem L2 PyProof.Rows
/-! defs that know that no repr runs around them -/
structure RoomG (k : Nat) (A : Around) : Prop where
  r : Room k A
  g : A.guards = some []
theorem RoomG.mono {j k : Nat} {A : Around} (r : RoomG k A) (h : j ≤ k) : RoomG j A := ⟨r.r.mono h, r.g⟩
theorem RoomG.deeper {k : Nat} {A : Around} (r : RoomG (k + 1) A) (env : Env) : RoomG k (A.deeper env) := ⟨r.r.deeper env, r.g⟩
theorem RoomG.make {k : Nat} {A : Around} (r : RoomG (k + 1) A) (C : Addr) (us : List Value) (kw : List (Str × Value)) : RoomG k (A.under (.builtin "type.__call__" ⟨.ref C :: us, kw⟩)) :=
  ⟨r.r.make C us kw, by
    have e : (A.under (.builtin "type.__call__" ⟨.ref C :: us, kw⟩)).guards = A.guards := by
      first | rfl | simp [Around.under, Code.guards, pushGuards, Code.isGuard, guardIds]
    rw [e]; exact r.g⟩
section
variable (P : Program) (w : World) (K : PySem.W.Frag) (mg : Str → Option Value) (base : Heap)
structure FnG (CX : CXT) (k : Nat) (f : Addr) (fd : FuncData) (ps : List Str) (sp : Sp) : Prop where
  len : ∀ vs H Q E, sp vs H Q E → vs.length = ps.length
  run : ∀ (A : Around) (outer : List Env) (s : Shared) (H : Hp) (args : Args) (us : List Value) (vs : List V) (Q : VK) (E : XK), RoomG k A → Env0 P w K mg base A outer s H →
    BindsTo s fd args (ps.zip us) → Vals vs us → sp vs H Q E → codeAny (model P w) A (.call (.ref f) args) (CR CX outer P w H s Q E) s
end
section
variable {P : Program} {w : World} {K : PySem.W.Frag} {mg : Str → Option Value} {base : Heap} {CX : CXT} {k : Nat} {f : Addr} {fd : FuncData} {ps : List Str} {sp sp' : Sp}
theorem toG (F : FnOk P w K mg base CX k f fd ps sp) : FnG P w K mg base CX k f fd ps sp := ⟨F.len, fun A o s H a us vs Q E hr => F.run A o s H a us vs Q E hr.r⟩
theorem FnG.mono {j : Nat} (F : FnG P w K mg base CX j f fd ps sp) (h : j ≤ k) : FnG P w K mg base CX k f fd ps sp := ⟨F.len, fun A o s H a us vs Q E hr => F.run A o s H a us vs Q E (hr.mono h)⟩
theorem FnG.imp (F : FnG P w K mg base CX k f fd ps sp) (h : ∀ vs H Q E, sp' vs H Q E → sp vs H Q E) : FnG P w K mg base CX k f fd ps sp' :=
  ⟨fun vs H Q E q => F.len vs H Q E (h _ _ _ _ q), fun A o s H a us vs Q E hr he hb hv hs => F.run A o s H a us vs Q E hr he hb hv (h _ _ _ _ hs)⟩
end
section
variable {X : Cx} {CX : CXT} {k : Nat} {f C : Addr} {fd : FuncData} {ps : List Str} {sp : Sp} {dvs : List V} {ds : List Value} {E : XK} {x m : Str} {p pos apos : Pos} {e o : Expr} {es : List Expr} {ta : TE} {t : TA}
theorem runG {pins : List (Addr × Obj)} {σ : L2.St} {H : Hp} {s : Shared} {Q : VK} {us : List Value} {vs : List V} (F : FnG X.prog X.w X.K X.mg X.base CX k f fd ps sp) (hr : RoomG k X.A) (hb : Binds X.K fd ps ds) (hd : Vals dvs ds)
    (hx : Passes CX X E) (I : Inv X pins σ H s) (r : Vals vs us) (h : sp (vs ++ dvs) H Q E) : wpAny (model X.prog X.w) X.A (call (.ref f) us) (EP X pins σ Q) X.xe s := by
  have rr : Vals (vs ++ dvs) (us ++ ds) := r.append hd
  have ll : (us ++ ds).length = ps.length := rr.length.symm.trans (F.len _ _ _ _ h)
  refine wpAny_call (codeAny_mono (F.run X.A X.stack s H ⟨us, []⟩ (us ++ ds) (vs ++ dvs) Q E hr I.env0 (hb s us I.kIn ll) rr h) fun r' s' hq => ?_)
  match r', hq with
  | .error er, hq => exact hx pins σ H s er s' I hq
  | .ok (.ret u), hq => exact I.after hq
  | .ok .next, hq => exact False.elim hq
  | .ok .brk, hq => exact False.elim hq
  | .ok .cont, hq => exact False.elim hq
theorem pe_callG (F : FnG X.prog X.w X.K X.mg X.base CX k f fd ps sp) (hr : RoomG k X.A) (hg : Gl X x) (hm : X.mg x = some (.ref f)) (hk : PySem.W.keepIn X.K (.ref f) = true) (hb : Binds X.K fd ps ds) (hd : Vals dvs ds)
    (hx : Passes CX X E) (ha : PA X (e :: es) t) (hdb : (x == ("__debug__" : Str)) = false := by decide) (he : starEach (e :: es) X.env = (false, eval e X.env) :: starEach es X.env := by rfl)
    (hpl : (backTo pos (starEach es X.env)).any (·.1) = false := by rfl) : PE X (.Call (.Name x p) (e :: es) [] pos) (tCall sp dvs E t) :=
  ⟨fun pins s σ H Q I h => wpAny_Call_Name_kw (ld_glob I hg hm (PySem.W.callWith_K (h₀ := X.base) I.ok.mod.kin hk (thn (ha.run pos pins s σ H _ I h) fun us s1 ⟨vs, H1, I1, r, q⟩ => ⟨I1.kIn, runG F hr hb hd hx I1 r q⟩) he hpl) hdb)⟩
theorem pe_call0G (F : FnG X.prog X.w X.K X.mg X.base CX k f fd ps sp) (hr : RoomG k X.A) (hg : Gl X x) (hm : X.mg x = some (.ref f)) (hk : PySem.W.keepIn X.K (.ref f) = true) (hb : Binds X.K fd ps ds) (hd : Vals dvs ds)
    (hx : Passes CX X E) (hdb : (x == ("__debug__" : Str)) = false := by decide) : PE X (.Call (.Name x p) [] [] pos) (tCall sp dvs E tNil) :=
  ⟨fun pins s σ H Q I h => wpAny_Call_Name_kw (ld_glob I hg hm (PySem.W.callWith_K0 I.kIn hk (runG (us := []) F hr hb hd hx I .nil h)) hdb)⟩
end
/-- a def by its body -/
theorem fnG_of {CX : CXT} {P : Program} {w : World} {K : PySem.W.Frag} {mg : Str → Option Value} {base : Heap} {k : Nat} {f : Addr} {name qual : Str} {params : Arguments} {body : List Stmt} {scope : Scope} {dV kV doc pm cdv ct oc : Value} {an od : Option Addr}
    {osl : Array (Option Value)} {N ps : List Str} {sp : Sp} (lk : K.lookup f = some ⟨oc, od, .func (PySem.W.fnOf name qual params body scope dV kV doc pm an cdv ct), osl⟩) (hcd : PySem.W.codeIn K cdv qual = true)
    (S : FnScope N ps scope) (len : ∀ vs H Q E, sp vs H Q E → vs.length = ps.length)
    (hbody : ∀ (A : Around) (outer : List Env) (s : Shared) (H : Hp) (vs : List V) (Q : VK) (E : XK), RoomG k (A.deeper (envOfC qual scope s.heap.objs.size f cdv)) → sp vs H Q E →
      ∃ t, PSs (cxOf CX P w K mg base N qual scope f cdv A outer s H E) body t ∧ t { nx := fun _ H' => Q .non H', rt := Q } (start N vs) H) :
    FnG P w K mg base CX (k + 1) f (PySem.W.fnOf name qual params body scope dV kV doc pm an cdv ct) ps sp := by
  refine ⟨len, fun A outer s H args us vs Q E hr e0 hb r hsp => ?_⟩
  have nl := len _ _ _ _ hsp
  have kin : K.In s.heap := e0.mod.kin.keeps fun b o e => (e0.bs b o e).1
  have nolim : s.heap.NoLimit := e0.mod.nolimit.keeps fun b o e => (e0.bs b o e).1
  have kinds : ∀ y ∈ ps.zip us, scope.names.lookup y.1 = some .local ∨ (scope.names.lookup y.1 = some .cell ∧ ((cellsFrom (s.heap.objs.size + 1) scope.names []).lookup y.1).isSome = true) := by
    rintro ⟨n, v⟩ hy
    rcases S.par n (List.of_mem_zip hy).1 with q | q
    · left; exact q
    · right; exact ⟨q, PySem.W.cellsFrom_some _ _ _ (.inl q)⟩
  refine codeAny_call_function hr.r.depth (kin _ _ lk) rfl S.co S.gen rfl (PySem.W.codeRec_of kin hcd) (hb _ _ _ _ ?_)
  refine wpAny_newFunctionEnv_cells S.kind kinds fun env he s1 x => ?_
  subst he
  refine ⟨nolim.keeps x.toInCall.keep, codeAny_func ?_⟩
  obtain ⟨t, ht, hq⟩ := hbody A outer s H vs Q E (hr.deeper _) hsp
  have I0 : Inv (cxOf CX P w K mg base N qual scope f cdv A outer s H E) [] (start N vs) H s1 := inv_start S hr.r.hd e0 nl r x
  refine wpAny_mono (ht.run [] s1 (start N vs) H _ I0 hq) (fun fl s' hs => ?_) fun _ _ hs => hs
  have done : ∀ {σ' : L2.St} {H' : Hp} {v : V} {u : Value}, Inv (cxOf CX P w K mg base N qual scope f cdv A outer s H E) [] σ' H' s' → RelV v u → Q v H' → CE outer P w H s Q u s' :=
    fun {_ H' v _} J rv q => ⟨v, H', J.os, J.bare, J.base, J.hok, rv, q⟩
  match fl, hs with
  | .ret u, ⟨v, σ', H', J, rv, q⟩ => exact done J rv q
  | .next, ⟨σ', H', J, q⟩ => exact done (v := V.non) (u := Value.none) J rfl q
  | .brk, ⟨_, _, _, q⟩ => exact False.elim q
  | .cont, ⟨_, _, _, q⟩ => exact False.elim q
section
variable {P : Program} {w : World} {K : PySem.W.Frag} {mg : Str → Option Value} {base : Heap}
theorem funG {x qual : Str} {st : Stmt} {f : Addr} {fd : FuncData} {N ps : List Str} {k : Nat} {sp : Sp} (F : Fun K x qual st f fd) (S : FnScope N ps (defScope st)) (len : ∀ vs H Q E, sp vs H Q E → vs.length = ps.length)
    (hbody : ∀ (cdv : Value) (A : Around) (outer : List Env) (s : Shared) (H : Hp) (vs : List V) (Q : VK) (E : XK), RoomG k (A.deeper (envOfC qual (defScope st) s.heap.objs.size f cdv)) → sp vs H Q E →
      ∃ t, PSs (cxOf CX0 P w K mg base N qual (defScope st) f cdv A outer s H E).nox (defBody st) t ∧ t { nx := fun _ H' => Q .non H', rt := Q } (start N vs) H) : FnG P w K mg base CX0 (k + 1) f fd ps sp := by
  obtain ⟨oc, od, kV, doc, pm, an, cdv, ct, osl, rfl, lk, hcd⟩ := F.ex
  exact fnG_of lk hcd S len fun A outer s H vs Q E hr hsp => by
    obtain ⟨t, h, q⟩ := hbody cdv A outer s H vs Q E hr hsp
    exact ⟨t, h.nox, q⟩
theorem funGX {x qual : Str} {st : Stmt} {f : Addr} {fd : FuncData} {N ps : List Str} {k : Nat} {sp : Sp} (F : Fun K x qual st f fd) (S : FnScope N ps (defScope st)) (len : ∀ vs H Q E, sp vs H Q E → vs.length = ps.length)
    (hbody : ∀ (cdv : Value) (A : Around) (outer : List Env) (s : Shared) (H : Hp) (vs : List V) (Q : VK) (E : XK), RoomG k (A.deeper (envOfC qual (defScope st) s.heap.objs.size f cdv)) → sp vs H Q E →
      ∃ t, PSs (cxOf (L2.CX P w) P w K mg base N qual (defScope st) f cdv A outer s H E) (defBody st) t ∧ t { nx := fun _ H' => Q .non H', rt := Q } (start N vs) H) : FnG P w K mg base (L2.CX P w) (k + 1) f fd ps sp := by
  obtain ⟨oc, od, kV, doc, pm, an, cdv, ct, osl, rfl, lk, hcd⟩ := F.ex
  exact fnG_of lk hcd S len fun A outer s H vs Q E hr hsp => hbody cdv A outer s H vs Q E hr hsp
end
/-- the law's call -/
theorem lawG {P : Program} {w : World} {K : PySem.W.Frag} {mg mb : Str → Option Value} {k : Nat} {fa a : Addr} {fd : FuncData} {x : Str} {sp : Sp} {s1 : Shared} {vs : List Value} {ns : List Int}
    (KX : K.In s1.heap) (hns : s1.heap.Ns mainGlobals mg) (hb : s1.heap.Ns builtinsNs mb) (hbb : ∀ x : Str, x ≠ "__name__" → mb x = bootBuiltins x) (hlim : s1.heap.NoLimit) (hgen : s1.gens = #[])
    (ha : s1.heap.get? a = some { cls := .type "list", data := .seq vs.toArray }) (hi : IntsAre vs ns) (hl : ns.length ≤ sizeLine) (hr : Room k callerA)
    (F : ∀ base : Heap, K.In base → base.Ns mainGlobals mg → FnG P w K mg base CX0 k fa fd [x] sp) (hbind : ∀ (s : Shared) (u : Value), BindsTo s fd ⟨[u], []⟩ [(x, u)])
    (hsp : ∀ H : Hp, Only H → SqL K H a (ns.map V.int) → sp [.ref a] H (fun v _ => v = .bl true) E0) :
    codeAny (model P w) callerA (.call (.ref fa) ⟨[.ref a], []⟩) (fun r s' => r = .ok (.ret (.bool true)) ∧ OldK s1.heap s'.heap ∧ s'.os = s1.os ∧ AllBare s'.gens) s1 := by
  have rv := vals_ints hi
  have core : ∀ H : Hp, Only H → SqL K H a (ns.map V.int) → HOk P w H s1.heap → (∀ b, H b ≠ none → b = a) → (H a ≠ none → K.lookup a = none) →
      codeAny (model P w) callerA (.call (.ref fa) ⟨[.ref a], []⟩) (fun r s' => r = .ok (.ret (.bool true)) ∧ OldK s1.heap s'.heap ∧ s'.os = s1.os ∧ AllBare s'.gens) s1 := by
    intro H hO hS hok onlyA notK
    have hid : ∀ {b : Addr} {o : Obj}, s1.heap.get? b = some o → H b = none → (hidT s1.heap H).get? b = some o := fun e n => hidT_get e n
    have free : ∀ {b : Addr}, (b = a → False) → H b = none := fun {b} h => by
      cases q : H b with
      | none => rfl
      | some u => exact (h (onlyA b (by rw [q]; simp))).elim
    have nsH : ∀ {b : Addr} {m : Str → Option Value}, s1.heap.Ns b m → (hidT s1.heap H).Ns b m := fun {b m} ⟨o, es, ep, e, d, r⟩ => by
      refine ⟨o, es, ep, hid e (free fun z => ?_), d, r⟩
      subst z
      rw [ha] at e
      have e' := Option.some.inj e
      rw [← e'] at d
      cases d
    have kinH : K.In (hidT s1.heap H) := fun b o e => by
      refine hid (KX b o e) ?_
      by_cases hba : b = a
      · subst hba
        cases q : H b with
        | none => rfl
        | some u =>
          have z := notK (by rw [q]; simp)
          rw [e] at z; cases z
      · exact free hba
    have modH : Mod K mg (hidT s1.heap H) := ⟨kinH, nsH hns, ⟨mb, nsH hb, hbb⟩, let ⟨mc, h1, h2⟩ := hlim; ⟨mc, nsH h1, h2⟩⟩
    have env0 : Env0 P w K mg (hidT s1.heap H) callerA [] s1 H := ⟨rfl, modH, fun b o e => of_hidT e, Nat.le_of_eq (hidT_size _ _), trivial, fun b hb => (by cases hb), hok, .of_eq hgen⟩
    refine codeAny_mono ((F _ kinH (nsH hns)).run callerA [] s1 H ⟨[.ref a], []⟩ [.ref a] [.ref a] _ _ ⟨hr, rfl⟩ env0 (hbind s1 (.ref a)) (.cons rfl .nil) (hsp H hO hS)) fun r s' h => ?_
    match r, h with
    | .error e, h => exact False.elim h
    | .ok .next, h => exact False.elim h
    | .ok .brk, h => exact False.elim h
    | .ok .cont, h => exact False.elim h
    | .ok (.ret u), h =>
      obtain ⟨v, H', os, bare, un, hok', r', q⟩ := h
      obtain rfl : v = .bl true := q
      obtain rfl : u = Value.bool true := r'
      refine ⟨rfl, OldK.of_keep fun b o e => ?_, os, bare⟩
      cases q : H b with
      | none => exact un.keep b o e q (by intro z; cases z) (by intro z; cases z)
      | some u =>
        obtain ⟨ob, xs, z⟩ : ∃ o xs, H b = some (.frz o (.lst xs)) := (hO b).resolve_left (by rw [q]; simp)
        have e1 := (hok b _ z).1
        have e2 := (hok' b _ (un.frzs b ob _ z)).1
        rw [e] at e1
        cases e1
        exact e2
  cases hk : K.lookup a with
  | some o =>
    have e := KX a o hk
    rw [ha] at e
    cases e
    exact core (fun _ => none) (fun _ => .inl rfl) (.inr ⟨_, vs.toArray, _, hk, rfl, rfl, rfl, by rw [List.size_toArray, hi.length]; exact hl, by simpa using rv⟩) (fun b u z => by cases (show (none : Option HO) = some u from z)) (fun b z => absurd rfl z) fun z => absurd rfl z
  | none =>
    have at_ : ∀ {b : Addr}, b ≠ a → (if b = a then some (HO.frz { cls := .type "list", data := .seq vs.toArray } (.lst (ns.map V.int))) else none) = none := fun h => if_neg h
    refine core (fun b => if b = a then some (.frz { cls := .type "list", data := .seq vs.toArray } (.lst (ns.map V.int))) else none) (fun b => ?_) (.inl (.inr ⟨{ cls := .type "list", data := .seq vs.toArray }, if_pos rfl⟩)) (fun b u z => ?_) (fun b z => ?_) fun _ => hk
    · by_cases hba : b = a
      · exact .inr ⟨_, _, if_pos hba⟩
      · exact .inl (at_ hba)
    · by_cases hba : b = a
      · subst hba
        have z' := (if_pos rfl).symm.trans z
        cases z'
        exact ⟨ha, by rw [List.length_map]; exact hl, vs, _, rv, ha⟩
      · have z' := (at_ hba).symm.trans z
        cases z'
    · by_cases hba : b = a
      · exact hba
      · exact absurd (at_ hba) z
theorem walkG {l : PySem.W.OpenLaw} {n k : Nat} {q : Program} {loose : List Str} {XP : (Str → Option Value) → Heap → Prop} {YP : World → Heap → Prop} {d : DefRec} {K : Params → PySem.W.Frag} {sp : World → Sp} {x : Str}
    (hn : l.most = some n) (hn2 : n ≤ sizeLine) (hdf : d.params.defaults = []) (hr : Room k callerA) (hY : ∀ (w : World) (h : Heap), YP w h → (K w.params).In h)
    (F : ∀ (w : World) (mg : Str → Option Value) (fa : Addr) (h : Heap), (K w.params).In h → h.Ns mainGlobals mg → mg d.name = some (.ref fa) →
      ∃ fd : FuncData, (∀ (s : Shared) (u : Value), BindsTo s fd ⟨[u], []⟩ [(x, u)]) ∧ ∀ base : Heap, (K w.params).In base → base.Ns mainGlobals mg → FnG l.prog w (K w.params) mg base CX0 k fa fd [x] (sp w))
    (hsp : ∀ (w : World) (H : Hp) (a : Addr) (ns : List Int), ns.length ≤ n → Only H → SqL (K w.params) H a (ns.map V.int) → sp w [.ref a] H (fun v _ => v = .bl true) E0) :
    PySem.W.WalkO q loose XP YP l.row.toRowW d [] (fun f vs => PySem.call f vs) := by
  refine Att.attach_call hn hdf fun w s0 s1 mg mb fa o pm cd doc a vs ns G Y ho hd hcd hmg hobj hints hlen hgen => ?_
  have KX := hY w _ Y
  obtain ⟨fd, hb, hF⟩ := F w mg fa _ KX G.T.g hmg
  exact lawG KX G.T.g G.T.b G.T.builtins G.T.nolimit hgen hobj hints (Nat.le_trans hlen hn2) hr hF hb (fun H hO hS => hsp w H a ns hlen hO hS)
end Hw

set_option Elab.async false
set_option linter.all false
set_option maxRecDepth 100000
set_option maxHeartbeats 4000000
namespace Hw
open PySem L2 PyProof.Rows
/-! repr of data -/
mutual
theorem Dp_noDict {K : PySem.W.Frag} {H : Hp} : ∀ (d : PyData) (v : V), Dp K H v d → d.hasDict = false
  | .none, _, _ => by simp only [PyData.hasDict]
  | .bool _, _, _ => by simp only [PyData.hasDict]
  | .int _, _, _ => by simp only [PyData.hasDict]
  | .str _, _, _ => by simp only [PyData.hasDict]
  | .list ds, _, h => by
    cases h with
    | lst _ ha => simp only [PyData.hasDict]; exact DpAll_noDict ds _ ha
  | .tuple ds, _, h => by
    cases h with
    | tup _ ha => simp only [PyData.hasDict]; exact DpAll_noDict ds _ ha
  | .dict _, _, h => nomatch h
theorem DpAll_noDict {K : PySem.W.Frag} {H : Hp} : ∀ (ds : List PyData) (vs : List V), DpAll K H vs ds → PyData.hasDictAll ds = false
  | [], _, _ => by simp only [PyData.hasDictAll]
  | d :: ds, _, h => by
    cases h with
    | cons h1 h2 =>
      simp only [PyData.hasDictAll]
      rw [Dp_noDict d _ h1, DpAll_noDict ds _ h2]; rfl
end
/-- what is flat, as data -/
def flatPD : V → Option PyData
  | .non => some .none
  | .bl b => some (.bool b)
  | .int i => some (.int i)
  | .str x => some (.str x)
  | _ => none
def keyPD : Key → PyData
  | .inl i => .int i
  | .inr x => .str x
/-- a dict with flat values, as data -/
def DpK (H : Hp) (v : V) (d : PyData) : Prop := ∃ (a : Addr) (kvs : List (Key × V)) (ds : List (PyData × PyData)), v = .ref a ∧ H a = some (.dK kvs) ∧ d = .dict ds ∧
  Paired (fun p q => q.1 = keyPD p.1 ∧ flatPD p.2 = some q.2) kvs ds
def rRepr (K : PySem.W.Frag) : List V → Hp → VK → Prop := fun xs H Q => ∃ (x : V) (d : PyData), xs = [x] ∧ (Dp K H x d ∨ DpK H x d) ∧ d.showable = true ∧ d.depth ≤ 60 ∧ d.shown.length ≤ sizeLine ∧ Q (.str d.shown) H
theorem flat_reads {h : Heap} {v : V} {d : PyData} {u : Value} (e : flatPD v = some d) (r : RelV v u) : Reads h u d [] := by
  cases v with
  | non => cases e; cases r; exact .none
  | bl b => cases e; cases r; exact .bool b
  | int i => cases e; obtain ⟨t, rfl⟩ := r; exact .int i t
  | str x => cases e; obtain ⟨t, rfl⟩ := r; exact .str x t
  | byt b => cases e
  | flt b => cases e
  | ref a => cases e
  | ty n => cases e
theorem key_reads {P : Program} {w : World} {h : Heap} {k : Key} {u : Value} (e : (mixKind P w).is k u = true) : Reads h u (keyPD k) [] := by
  rcases keyIs_shape e with ⟨i, t, rfl, rfl⟩ | ⟨x, t, rfl, rfl⟩
  · exact .int i t
  · exact .str x t
theorem dict_reads {P : Program} {w : World} {h : Heap} : ∀ {kvs : List (Key × V)} {ds : List (PyData × PyData)} {vs : List (Key × Value)} {es : List DictEntry}, Paired (fun p q => q.1 = keyPD p.1 ∧ flatPD p.2 = some q.2) kvs ds → KV kvs vs → PySem.Pairs (mixKind P w) es vs →
    ReadsAll h (es.map (·.key)) (ds.map (·.1)) [] ∧ ReadsAll h (es.map (·.val)) (ds.map (·.2)) []
  | [], _, _, _, .nil, kv, pr => by cases kv; cases pr; exact ⟨.nil, .nil⟩
  | p :: kvs, q :: ds, _, _, .cons a t, kv, pr => by
    cases kv with
    | cons k1 k2 =>
      cases pr with
      | cons p1 p2 p3 =>
        obtain ⟨r1, r2⟩ := dict_reads t k2 p3
        obtain ⟨e1, e2⟩ := a
        refine ⟨?_, ?_⟩
        · have z : ReadsAll h _ _ ([] ++ []) := .cons (key_reads (h := h) p1) r1
          rw [← k1.1, ← e1] at z
          exact z
        · have y := flat_reads (h := h) e2 k1.2
          rw [← p2] at y
          exact (ReadsAll.cons y r2 : ReadsAll h _ _ ([] ++ []))
section
variable {X : Cx}
theorem call_repr (hg : X.A.guards = some []) (hu : X.A.units + 100 < cLine) : CallR X (.builtin "repr") (rRepr X.K) := by
  intro pins s σ H xs us Q I r h
  obtain ⟨x, d, rfl, hd, hs, hdp, hz, q⟩ := h
  obtain ⟨u, w', rfl, ru, rw'⟩ : ∃ u w', us = [u] ∧ RelV x u ∧ w' = us := by
    cases r with
    | cons a t => cases t; exact ⟨_, _, rfl, a, rfl⟩
  have fin : ∀ h' (tk : Tok) (tk' : Nat), (∀ b o, s.heap.get? b = some o → h'.get? b = some o) → EP X pins σ Q (.str d.shown tk) { s with heap := h', toks := tk' } := fun h' tk tk' k => ⟨.str d.shown, H, I.kept (t' := tk') k, ⟨tk, rfl⟩, q⟩
  have big : ∀ {a : Addr} {as : List Addr}, Reads s.heap (.ref a) d as → (d.hasDict = true → sysModules ∉ as) → wpAny (model X.prog X.w) X.A (call (.builtin "repr") [.ref a]) (EP X pins σ Q) X.xe s := fun {a as} r1 hm =>
    repr_of_reads' (h₀ := s.heap) r1 hs hm hg (by omega) (fun _ _ e => e) (fun h' u tk k => fin h' u tk k) hz
  rcases hd with hd | ⟨a, kvs, ds, rfl, ha, rfl, hp⟩
  · have nd := Dp_noDict d x hd
    obtain ⟨as, r1⟩ := Dp.reads I d x u hd ru
    cases hd with
    | non => cases ru; exact P.repr_of_none (fin s.heap _ _ fun _ _ e => e)
    | bl b =>
      cases ru
      refine P.repr_of_bool ?_
      have z := fin s.heap s.toks (s.toks + 1) fun _ _ e => e
      simpa only [PyData.shown] using z
    | int i =>
      obtain ⟨t, rfl⟩ := ru
      refine P.repr_of_int (by simpa only [PyData.showable, decide_eq_true_eq] using hs) ?_
      have z := fin s.heap s.toks (s.toks + 1) fun _ _ e => e
      simpa only [PyData.shown] using z
    | str y =>
      obtain ⟨t, rfl⟩ := ru
      refine P.repr_of_str ?_ (by simpa only [PyData.shown] using hz)
      have z := fin s.heap s.toks (s.toks + 1) fun _ _ e => e
      simpa only [PyData.shown] using z
    | lst h1 h2 => cases ru; exact big r1 (by rw [nd]; exact fun z => nomatch z)
    | tup h1 h2 => cases ru; exact big r1 (by rw [nd]; exact fun z => nomatch z)
  · cases ru
    obtain ⟨hl, hsys, vs, kv, o, es, ep, ho, hex, hdat, _, hpr, _⟩ := dk_of I.hok ha
    obtain ⟨r1, r2⟩ := dict_reads (h := s.heap) hp kv hpr
    refine big (.dict ho hex.1 hdat r1 r2) fun _ hm => ?_
    have e : sysModules = a := by simpa using hm
    rw [← e] at hsys
    simp at hsys
end
end Hw

set_option Elab.async false
set_option linter.all false
set_option maxRecDepth 100000
set_option maxHeartbeats 4000000
namespace Hw
open PySem L2 PyProof.Rows
/-! an exception held as a value: the object at a, its own dict at d -/
def XAt (H : Hp) (a C d : Addr) (v : V) : Prop := H a = some (exo a C (some d)) ∧ H d = some (exd d [("value", v)])
theorem XAt.same {H H' : Hp} {a C d : Addr} {v : V} (x : XAt H a C d v) (s : Same H H') : XAt H' a C d v := ⟨s _ _ x.1, s _ _ x.2⟩
theorem XAt.sameX {H H' : Hp} {a C d p : Addr} {v : V} (x : XAt H a C d v) (s : SameX p H H') (ha : a ≠ p) (hd : d ≠ p) : XAt H' a C d v := ⟨s _ _ ha x.1, s _ _ hd x.2⟩
/-- what the written part says of such a class -/
structure XCls (K : PySem.W.Frag) (fI C : Addr) : Prop where
  o : OexC K C
  x : XfC K C
  noV : PySem.W.findIn K (.ref C) "value" = some none
  ini : PySem.W.findIn K (.ref C) "__init__" = some (some (.ref fI))
  tI : PySem.W.typeIn K (.ref fI) = some (.type "function")
  cl : (PySem.W.clsIn K C).isSome = true
  ha : PySem.W.findIn K (.ref C) "__class__" = some (some (.builtin "object.__class__"))
  hn : PySem.W.specialIn K (.builtin "object.__class__") "__get__" = some (some (.builtin "getset_descriptor.__get__"))
  ht : PySem.W.takesIn K (.builtin "object.__class__") = some true
  hm : PySem.W.mroIn K C (.type "object") = some true
def oexB (K : PySem.W.Frag) (C : Addr) : Bool := match K.lookup C with
  | some ⟨.type "type", _, .cls cd, sl⟩ => (match cd.mro, sl.toList with
    | .ref C' :: bm, [_, _, _, _, some (.builtin n), _] => C' == C && (n == "ValueError.__new__" && (!cd.hasDel && (cd.hasDict && PySem.HandSPX.refsVE bm)))
    | _, _ => false)
  | _ => false
theorem oexB_ok {K : PySem.W.Frag} {C : Addr} (q : oexB K C = true) :
    ∃ nm q N bs bm sn sub ab col dd k0 k1 k2 k3 k5, K.lookup C = some (excClassObj nm q C N bs bm true sn sub ab col dd k0 k1 k2 k3 k5 "ValueError.__new__") ∧ PySem.HandSPX.refsVE bm = true := by
  unfold oexB at q
  split at q
  · rename_i dd cd sl ho
    split at q
    · rename_i C' bm k0 k1 k2 k3 n k5 hm hs
      simp only [Bool.and_eq_true, beq_iff_eq, Bool.not_eq_true'] at q
      obtain ⟨rfl, rfl, hdel, hdi, hve⟩ := q
      obtain ⟨nm, bs, mro, ns, qn, hd, sn, sub, ab, col, del⟩ := cd
      dsimp only at hm hdel hdi
      subst hm hdel hdi
      have hsl : sl = #[k0, k1, k2, k3, some (.builtin "ValueError.__new__"), k5] := by
        obtain ⟨l⟩ := sl
        simp only at hs
        rw [hs]
      subst hsl
      exact ⟨nm, qn, ns, bs, bm, sn, sub, ab, col, dd, k0, k1, k2, k3, k5, ho, hve⟩
    · cases q
  · cases q
def xclsB (K : PySem.W.Frag) (fI C : Addr) : Bool :=
  oexB K C && (decide (PySem.W.findIn K (.ref C) "__setattr__" = some (some (.builtin "object.__setattr__"))) && (decide (PySem.W.subIn K (.ref C) (.type "BaseException") = some true) && (decide (PySem.W.typeIn K (.ref C) = some (.type "type")) && (PySem.W.keepIn K (.ref C) &&
  (xfB K C && (decide (PySem.W.findIn K (.ref C) "value" = some none) && (decide (PySem.W.findIn K (.ref C) "__init__" = some (some (.ref fI))) && (decide (PySem.W.typeIn K (.ref fI) = some (.type "function")) && ((PySem.W.clsIn K C).isSome &&
  (decide (PySem.W.findIn K (.ref C) "__class__" = some (some (.builtin "object.__class__"))) && (decide (PySem.W.specialIn K (.builtin "object.__class__") "__get__" = some (some (.builtin "getset_descriptor.__get__"))) &&
  (decide (PySem.W.takesIn K (.builtin "object.__class__") = some true) && decide (PySem.W.mroIn K C (.type "object") = some true)))))))))))))
theorem xclsB_ok {K : PySem.W.Frag} {fI C : Addr} (h : xclsB K fI C = true) : XCls K fI C := by
  unfold xclsB at h
  simp only [Bool.and_eq_true, decide_eq_true_eq] at h
  obtain ⟨a1, a2, a3, a4, a5, a6, a7, a8, a9, b1, b2, b3, b4, b5⟩ := h
  exact ⟨⟨oexB_ok a1, a2, a3, a4, a5⟩, xfB_ok a6, a7, a8, a9, b1, b2, b3, b4, b5⟩
/-- the promise of __init__(self, value) -/
def spIniX (K : PySem.W.Frag) : Sp := fun vs H Q _ => ∃ (a C fI : Addr) (v : V), vs = [.ref a, v] ∧ XCls K fI C ∧ H a = some (exo a C none) ∧
  ∀ dx, H dx = none → dx ≠ a → Q .non (upd (upd H dx (exd dx [("value", v)])) a (exo a C (some dx)))
/-- C(e): a new exception -/
def tMkX (C : Addr) (ta : TA) : TE := fun σ H Q => ta σ H fun vs H1 => ∃ v, vs = [v] ∧ ∀ a d, H1 a = none → H1 d = none → d ≠ a → Q (.ref a) (upd (upd H1 d (exd d [("value", v)])) a (exo a C (some d)))
/-- x.value of a held exception -/
def tXv (K : PySem.W.Frag) (n : Str) (te : TE) : TE := fun σ H Q => te σ H fun x H1 => ∃ (a C d fI : Addr) (v : V), x = .ref a ∧ n = "value" ∧ XCls K fI C ∧ XAt H1 a C d v ∧ Q v H1
/-- isinstance(x, c) of a held exception -/
def rIsX (K : PySem.W.Frag) : List V → Hp → VK → Prop := fun xs H Q => ∃ (a C d fI : Addr) (v c : V) (u : Value) (b : Bool), xs = [.ref a, c] ∧ ClsV c u ∧ XCls K fI C ∧ XAt H a C d v ∧ PySem.W.kitOne K (.ref C) u = some b ∧ Q (.bl b) H
section
variable {X : Cx}
theorem pe_mkX {x : Str} {C fI : Addr} {k : Nat} {fd : FuncData} {e : Expr} {es : List Expr} {ta : TA} {p pos : Pos} (T : XCls X.K fI C) (F1 : FnOk X.prog X.w X.K X.mg X.base CX0 k fI fd ["self", "value"] (spIniX X.K)) (hr : Room (k + 1) X.A) (hb : Binds X.K fd ["self", "value"] [])
    (hg : Gl X x) (hm : X.mg x = some (.ref C)) (ha : PA X (e :: es) ta) (hdb : (x == ("__debug__" : Str)) = false := by decide) (hs : starEach (e :: es) X.env = (false, eval e X.env) :: starEach es X.env := by rfl) (hpl : (backTo pos (starEach es X.env)).any (·.1) = false := by rfl) :
    PE X (.Call (.Name x p) (e :: es) [] pos) (tMkX C ta) := by
  refine ⟨fun pins s σ H Q I h => ?_⟩
  obtain ⟨nm, q, N, bs, bm, sn, sub, ab, col, dd, k0, k1, k2, k3, k5, hC, hbm⟩ := T.o.cls
  refine wpAny_Call_Name_kw (ld_glob I hg hm ?_ hdb)
  refine PySem.W.callWith_K (h₀ := X.base) I.ok.mod.kin T.o.kC (thn (ha.run pos pins s σ H _ I h) fun us s1 ⟨vs, H1, I1, r1, v, ev, q1⟩ => ⟨I1.kIn, ?_⟩) hs hpl
  subst ev
  show wpAny _ _ (call (.ref C) us) _ _ _
  obtain ⟨hp, g, dr, tk, os⟩ := s1
  have hsz : hp.objs.size ≤ hp.objs.size + 1 := Nat.le_succ _
  have hn : H1 (hp.objs.size + 1) = none := I1.hok.fresh hsz
  have keeps : ∀ b o, hp.get? b = some o → ((hp.push (PySem.W.kdv_tup us)).push (PySem.HandSPX.excO C hp.objs.size)).get? b = some o := fun b o e => Heap.get?_push_of_some _ (Heap.get?_push_of_some _ e)
  have made : ((hp.push (PySem.W.kdv_tup us)).push (PySem.HandSPX.excO C hp.objs.size)).get? (hp.objs.size + 1) = some (PySem.HandSPX.excO C hp.objs.size) := by heap_get
  have I2 : Inv X pins σ (upd H1 (hp.objs.size + 1) (exo (hp.objs.size + 1) C none)) ⟨(hp.push (PySem.W.kdv_tup us)).push (PySem.HandSPX.excO C hp.objs.size), g, dr, tk, os⟩ :=
    I1.laid (t' := tk) keeps hsz (exo_ok made)
  have r2 : Vals (V.ref (hp.objs.size + 1) :: [v]) (Value.ref (hp.objs.size + 1) :: us) := .cons rfl r1
  have hl : (Value.ref (hp.objs.size + 1) :: us).length = (["self", "value"] : List Str).length := by
    rw [← r2.length]; rfl
  have hus : us.length ≤ sizeLine := by
    rw [← Paired.length r1, sizeLine_eq]; show 1 ≤ 16777216; decide
  have hsp : spIniX X.K (V.ref (hp.objs.size + 1) :: [v]) (upd H1 (hp.objs.size + 1) (exo (hp.objs.size + 1) C none)) (fun v' H2 => v' = .non ∧ ∃ d, H1 d = none ∧ d ≠ hp.objs.size + 1 ∧ H2 = upd (upd H1 d (exd d [("value", v)])) (hp.objs.size + 1) (exo (hp.objs.size + 1) C (some d))) E0 := by
    refine ⟨_, C, fI, v, rfl, T, upd_same, fun dx n1 n2 => ⟨rfl, dx, ?_, n2, ?_⟩⟩
    · rw [upd_ne n2] at n1; exact n1
    · funext b
      by_cases hb : b = hp.objs.size + 1
      · rw [hb, upd_same, upd_same]
      · rw [upd_ne hb, upd_ne hb]
        by_cases hd : b = dx
        · rw [hd, upd_same, upd_same]
        · rw [upd_ne hd, upd_ne hd, upd_ne hb]
  refine wpAny_call (PySem.HandSPX.call_own F.excBase_ValueError (fun Y => PySem.HandSPX.refsVE_contains Y bm hbm) (I1.kIn _ _ hC) (PySem.W.looks_findIn I1.kIn T.ini) (fun self => PySem.W.bind_fn I1.kIn self T.tI) hus
    (codeAny_mono (F1.run _ X.stack _ _ ⟨Value.ref (hp.objs.size + 1) :: us, []⟩ (Value.ref (hp.objs.size + 1) :: us) _ _ E0 (hr.make C us []) (I2.env0.make C us []) (by have z := hb _ (Value.ref (hp.objs.size + 1) :: us) I2.kIn (by simpa using hl); simpa using z) r2 hsp) fun r s' hq' => ?_))
  cases r with
  | error er => exact hq'.elim
  | ok fl =>
    cases fl with
    | ret u =>
      obtain ⟨v', H2, os2, bare2, un2, hok2, rv, ev, d, nd, nda, rfl⟩ := hq'
      subst ev
      exact ⟨rv, .ref _, _, I2.call' (ch := []) os2 un2 hok2 bare2 (fun b z => absurd z (by simp)), rfl, q1 _ d hn nd nda⟩
    | next => exact False.elim hq'
    | brk => exact False.elim hq'
    | cont => exact False.elim hq'
theorem xinst {pins : List (Addr × Obj)} {σ : L2.St} {H : Hp} {s : Shared} {a C d : Addr} {v : V} (I : Inv X pins σ H s) (x : XAt H a C d v) :
    ∃ ox od mA, PySem.W.InstAt s.heap a ox C (some od) ∧ s.heap.Ns1 d mA ∧ (∀ f, RelO (List.lookup f [(("value" : Str), v)]) (mA f)) ∧ s.heap.get? d = some od := by
  obtain ⟨t1, e1⟩ := exo_at I.hok x.1
  obtain ⟨mA, hns, rel⟩ := exd_at I.hok x.2
  obtain ⟨od, es, ep, ho, rest⟩ := id hns
  exact ⟨_, od, mA, ⟨e1, rfl, rfl, ho⟩, hns, rel, ho⟩
theorem pe_xv {e : Expr} {te : TE} {pos : Pos} {n : Str} (he : PE X e te) (hb : attributeBase e n X.env (eval e X.env) = eval e X.env := by rfl) : PE X (.Attribute e n pos) (tXv X.K n te) := by
  refine ⟨fun pins s σ H Q I h => ?_⟩
  refine attr_of hb (thn (he.run pins s σ H _ I h) fun u s1 ⟨x, H1, I1, rx, a, C, d, fI, v, ex, en, T, xa, q⟩ => ?_)
  subst ex en
  obtain rfl : u = Value.ref a := rx
  obtain ⟨mA, hns, rel⟩ := exd_at I1.hok xa.2
  obtain ⟨t1, e1⟩ := exo_at I1.hok xa.1
  obtain ⟨od, ho, hl⟩ := lookIn_ns hns
  obtain ⟨u, hu, ru⟩ := RelO.some_of (v := v) (o := mA ("value" : Str)) (by have z := rel ("value" : Str); rwa [lookup_put, if_pos rfl] at z)
  have J : PySem.W.InstAt s1.heap a _ C (some od) := ⟨e1, rfl, rfl, ho⟩
  exact HandSPX.exc_get I1.kIn J T.x.ga T.x.gg T.x.exC (PySem.W.findObj_own T.x.hdC T.noV rfl (by rw [hl, hu])) (handed_of ru) ⟨v, H1, I1.tok _, ru, q⟩
theorem call_isX : CallR X (.builtin "isinstance") (rIsX X.K) := by
  intro pins s σ H xs us Q I r h
  obtain ⟨a, C, d, fI, v, c, u, b, rfl, hc, T, xa, e, q⟩ := h
  obtain ⟨u1, u2, rfl, r1, r2⟩ := vals2 r
  cases (show u1 = Value.ref a from r1)
  have e2 := hc.eq r2
  subst e2
  obtain ⟨ox, od, mA, J, _⟩ := xinst I xa
  exact PySem.W.kia_one (PySem.W.kitx_exc T.cl T.x.ga T.x.gg T.x.exC T.ha T.hn T.ht T.hm) I.kIn J e (fun z => nomatch z) fun tk => ⟨.bl b, H, I.tok tk, rfl, q⟩
end
end Hw

set_option Elab.async false
set_option linter.all false
set_option maxRecDepth 100000
set_option maxHeartbeats 4000000
namespace Hw
open PySem L2 PyProof.Rows
/-! written data, laid beside a place a -/
mutual
inductive Dx (a : Addr) (H : Hp) : V → PyData → Prop
  | flat {v : V} {d : PyData} : flatPD v = some d → Dx a H v d
  | lst {p : Addr} {xs : List V} {ds : List PyData} : H p = some (.lst xs) → p ≠ a → DxAll a H xs ds → Dx a H (.ref p) (.list ds)
  | tup {p : Addr} {xs : List V} {ds : List PyData} : H p = some (.tup xs) → p ≠ a → DxAll a H xs ds → Dx a H (.ref p) (.tuple ds)
  | dct {p : Addr} {kvs : List (Key × V)} {ds : List (PyData × PyData)} : H p = some (.dK kvs) → p ≠ a → (∀ q ∈ kvs, valV kvs q.1 = some q.2 ∧ flatB q.2 = true) → Paired (fun q e => e.1 = keyPD q.1 ∧ flatPD q.2 = some e.2) kvs ds → Dx a H (.ref p) (.dict ds)
inductive DxAll (a : Addr) (H : Hp) : List V → List PyData → Prop
  | nil : DxAll a H [] []
  | cons {v : V} {vs : List V} {d : PyData} {ds : List PyData} : Dx a H v d → DxAll a H vs ds → DxAll a H (v :: vs) (d :: ds)
end
section
variable {a : Addr} {H H' : Hp}
mutual
theorem Dx.keep (s : SameX a H H') : ∀ (v : V) (d : PyData), Dx a H v d → Dx a H' v d
  | _, .list ds, h => by
    cases h with
    | flat e => exact .flat e
    | lst h1 h2 h3 => exact .lst (s _ _ h2 h1) h2 (DxAll.keep s _ ds h3)
  | _, .tuple ds, h => by
    cases h with
    | flat e => exact .flat e
    | tup h1 h2 h3 => exact .tup (s _ _ h2 h1) h2 (DxAll.keep s _ ds h3)
  | _, .dict ds, h => by
    cases h with
    | flat e => exact .flat e
    | dct h1 h2 h3 h4 => exact .dct (s _ _ h2 h1) h2 h3 h4
  | _, .none, h => by cases h with | flat e => exact .flat e
  | _, .bool _, h => by cases h with | flat e => exact .flat e
  | _, .int _, h => by cases h with | flat e => exact .flat e
  | _, .str _, h => by cases h with | flat e => exact .flat e
theorem DxAll.keep (s : SameX a H H') : ∀ (vs : List V) (ds : List PyData), DxAll a H vs ds → DxAll a H' vs ds
  | _, [], h => by cases h; exact .nil
  | _, d :: ds, h => by
    cases h with
    | cons h1 h2 => exact .cons (Dx.keep s _ d h1) (DxAll.keep s _ ds h2)
end
theorem DxAll.length : ∀ {vs : List V} {ds : List PyData}, DxAll a H vs ds → vs.length = ds.length
  | _, _, .nil => rfl
  | _, _, .cons _ t => congrArg (· + 1) (DxAll.length t)
theorem DxAll.append : ∀ {vs ws : List V} {ds es : List PyData}, DxAll a H vs ds → DxAll a H ws es → DxAll a H (vs ++ ws) (ds ++ es)
  | _, _, _, _, .nil, t => t
  | _, _, _, _, .cons x y, t => .cons x (DxAll.append y t)
theorem DxAll.at : ∀ {vs : List V} {ds : List PyData} {i : Nat} {v : V}, DxAll a H vs ds → vs[i]? = some v → ∃ d, d ∈ ds ∧ Dx a H v d
  | _, _, _, _, .nil, e => by simp at e
  | _, _, 0, _, .cons x _, e => by
    simp at e; subst e
    exact ⟨_, List.mem_cons_self, x⟩
  | _, _, i + 1, v, .cons _ t, e => by
    obtain ⟨d, h1, h2⟩ := DxAll.at (i := i) t (by simpa using e)
    exact ⟨d, List.mem_cons_of_mem _ h1, h2⟩
theorem Dp_flat {K : PySem.W.Frag} {v : V} {d : PyData} (e : flatPD v = some d) : Dp K H v d := by
  cases v with
  | non => cases e; exact .non
  | bl b => cases e; exact .bl b
  | int i => cases e; exact .int i
  | str x => cases e; exact .str x
  | byt b => cases e
  | flt b => cases e
  | ref a => cases e
  | ty n => cases e
mutual
theorem Dx.dp (K : PySem.W.Frag) : ∀ (v : V) (d : PyData), d.hasDict = false → Dx a H v d → Dp K H v d
  | _, .list ds, n, h => by
    cases h with
    | flat e => exact Dp_flat e
    | lst h1 h2 h3 => exact .lst (sql_of h1) (DxAll.dp K _ ds (by simpa only [PyData.hasDict] using n) h3)
  | _, .tuple ds, n, h => by
    cases h with
    | flat e => exact Dp_flat e
    | tup h1 h2 h3 => exact .tup (sqt_of h1) (DxAll.dp K _ ds (by simpa only [PyData.hasDict] using n) h3)
  | _, .dict ds, n, h => by simp [PyData.hasDict] at n
  | _, .none, _, h => by cases h with | flat e => exact Dp_flat e
  | _, .bool _, _, h => by cases h with | flat e => exact Dp_flat e
  | _, .int _, _, h => by cases h with | flat e => exact Dp_flat e
  | _, .str _, _, h => by cases h with | flat e => exact Dp_flat e
theorem DxAll.dp (K : PySem.W.Frag) : ∀ (vs : List V) (ds : List PyData), PyData.hasDictAll ds = false → DxAll a H vs ds → DpAll K H vs ds
  | _, [], _, h => by cases h; exact .nil
  | _, d :: ds, n, h => by
    simp only [PyData.hasDictAll, Bool.or_eq_false_iff] at n
    cases h with
    | cons h1 h2 => exact .cons (Dx.dp K _ d n.1 h1) (DxAll.dp K _ ds n.2 h2)
end
end
/-! displays that lay data -/
def MkD (te : TE) (d : PyData) : Prop := ∀ (a : Addr) (σ : L2.St) (H : Hp) (Q : VK), H a ≠ none → (∀ v H', Same H H' → Dx a H' v d → Q v H') → te σ H Q
def MkA (ta : TA) (ds : List PyData) : Prop := ∀ (a : Addr) (σ : L2.St) (H : Hp) (Q : List V → Hp → Prop), H a ≠ none → (∀ vs H', Same H H' → DxAll a H' vs ds → Q vs H') → ta σ H Q
theorem same_some {a : Addr} {H H' : Hp} (s : Same H H') (h : H a ≠ none) : H' a ≠ none := by
  cases e : H a with
  | none => exact absurd e h
  | some o => rw [s _ _ e]; exact fun z => nomatch z
theorem mkA_nil : MkA tNil [] := fun _ _ H _ _ q => q [] H (Same.refl H) .nil
theorem mkA_cons {te : TE} {ta : TA} {d : PyData} {ds : List PyData} (h1 : MkD te d) (h2 : MkA ta ds) : MkA (tCons te ta) (d :: ds) := fun a σ H Q ha q =>
  h1 a σ H _ ha fun v H1 s1 x1 => h2 a σ H1 _ (same_some s1 ha) fun vs H2 s2 x2 => q (v :: vs) H2 (s1.trans s2) (.cons (Dx.keep (.of s2) _ _ x1) x2)
theorem mk_c {v : V} {d : PyData} (h : flatPD v = some d) : MkD (tC v) d := fun a σ H Q _ q => q v H (Same.refl H) (.flat h)
theorem mk_neg {i : Int} : MkD (tUn (rU fun i => .int (-i)) (tC (.int i))) (.int (-i)) := fun a σ H Q _ q => ⟨i, rfl, q _ H (Same.refl H) (.flat rfl)⟩
theorem mk_tup {ta : TA} {ds : List PyData} (h : MkA ta ds) (hl : ds.length ≤ 1000) : MkD (tTup ta) (.tuple ds) := fun a σ H Q ha q => h a σ H _ ha fun vs H1 s1 x1 =>
  ⟨Nat.le_of_lt (small1000 (by rw [x1.length]; exact hl)), fun p hp => q _ _ (s1.trans (same_upd hp)) (.tup upd_same (fun e => same_some s1 ha (e ▸ hp)) (DxAll.keep (.of (same_upd hp)) _ _ x1))⟩
theorem mk_lst {ta : TA} {ds : List PyData} (h : MkA ta ds) (hl : ds.length ≤ 1000) : MkD (tLst ta) (.list ds) := fun a σ H Q ha q => h a σ H _ ha fun vs H1 s1 x1 =>
  ⟨Nat.le_of_lt (small1000 (by rw [x1.length]; exact hl)), fun p hp => q _ _ (s1.trans (same_upd hp)) (.lst upd_same (fun e => same_some s1 ha (e ▸ hp)) (DxAll.keep (.of (same_upd hp)) _ _ x1))⟩
theorem mk_dnew : MkD tDNewK (.dict []) := fun a σ H Q ha q p hp => q _ _ (same_upd hp) (.dct upd_same (fun e => ha (e ▸ hp)) (fun _ z => nomatch z) .nil)
theorem mk_dict1 {k : Str} {i : Int} : MkD (tDisp [(tC (.str k), tC (.int i))]) (.dict [(.str k, .int i)]) := fun a σ H Q ha q p hp => by
  refine ⟨upd_same, [(Sum.inr k, .int i)], rfl, by show 1 ≤ 15; decide, ?_⟩
  refine q _ _ (fun b o e => ?_) (.dct upd_same (fun e => ha (e ▸ hp)) (kvs := [(Sum.inr k, .int i)]) ?_ (.cons ⟨rfl, rfl⟩ .nil))
  · have hb := ne_of_none e hp
    rw [upd_ne hb, upd_ne hb]; exact e
  · intro z hz
    rcases List.mem_cons.mp hz with rfl | hz
    · exact ⟨valV_pos (p := ((Sum.inr k : Key), V.int i)) (r := []) rfl, rfl⟩
    · cases hz
/-- what is shown of such data, and is equal to itself -/
def fineD (d : PyData) : Bool := d.showable && (decide (d.depth ≤ 60) && (decide (d.shown.length ≤ 1000) && (match d with | .dict _ => true | d => !d.hasDict && (SeqAt.shaped d && PyData.eqv d d))))
section
variable {X : Cx}
def rNeO (K : PySem.W.Frag) : R2 := fun x y H Q => ∃ (a : Addr) (d : PyData), y = x ∧ Dx a H x d ∧ fineD d = true ∧ Q (.bl false) H
theorem op_neO (hu : X.A.units + 64 < cLine) : OpR X (compareOp .NotEq) (rNeO X.K) := by
  intro pins s σ H x y v u Q I rx ry h
  obtain ⟨a, d, rfl, hd, hf, q⟩ := h
  unfold fineD at hf
  simp only [Bool.and_eq_true] at hf
  obtain ⟨_, _, _, hf⟩ := hf
  by_cases hdict : ∃ ds, d = .dict ds
  · obtain ⟨ds, rfl⟩ := hdict
    cases hd with
    | flat e => cases y <;> cases e
    | dct h1 h2 h3 h4 => exact op_ne_dictA (by omega) pins s σ H _ _ v u Q I rx ry ⟨_, _, _, _, rfl, rfl, h1, h1, rfl, h3, q⟩
  · have hf' : (!d.hasDict && (SeqAt.shaped d && PyData.eqv d d)) = true := by
      revert hf
      cases d with
      | dict ds => exact absurd ⟨ds, rfl⟩ hdict
      | _ => exact fun z => z
    simp only [Bool.and_eq_true, Bool.not_eq_true'] at hf'
    have z := Dx.dp X.K _ d hf'.1 hd
    exact op_neD hu pins s σ H _ _ v u Q I rx ry ⟨d, d, z, z, hf'.2.1, hf'.2.1, by rw [hf'.2.2]; exact q⟩
def rReprO : List V → Hp → VK → Prop := fun xs H Q => ∃ (x : V) (a : Addr) (d : PyData), xs = [x] ∧ Dx a H x d ∧ fineD d = true ∧ Q (.str d.shown) H
theorem call_reprO (hg : X.A.guards = some []) (hu : X.A.units + 100 < cLine) : CallR X (.builtin "repr") rReprO := by
  intro pins s σ H xs us Q I r h
  obtain ⟨x, a, d, rfl, hd, hf, q⟩ := h
  unfold fineD at hf
  simp only [Bool.and_eq_true, decide_eq_true_eq] at hf
  obtain ⟨h1, h2, h3, hf⟩ := hf
  refine call_repr hg hu pins s σ H _ us Q I r ⟨x, d, rfl, ?_, h1, h2, Nat.le_of_lt (small1000 h3), q⟩
  by_cases hdict : ∃ ds, d = .dict ds
  · obtain ⟨ds, rfl⟩ := hdict
    cases hd with
    | flat e => cases x <;> cases e
    | dct k1 k2 k3 k4 => exact .inr ⟨_, _, ds, rfl, k1, rfl, k4⟩
  · have hf' : (!d.hasDict && (SeqAt.shaped d && PyData.eqv d d)) = true := by
      revert hf
      cases d with
      | dict ds => exact absurd ⟨ds, rfl⟩ hdict
      | _ => exact fun z => z
    simp only [Bool.and_eq_true, Bool.not_eq_true'] at hf'
    exact .inl (Dx.dp X.K _ d hf'.1 hd)
/-- count(True) of bools -/
def isT : Value → Bool
  | .bool b => b
  | _ => false
def rCntT (K : PySem.W.Frag) : V → List V → Hp → VK → Prop := fun x xs H Q => ∃ (p : Addr) (bs : List Bool), x = .ref p ∧ xs = [.bl true] ∧ SqL K H p (bs.map V.bl) ∧ Q (.int (bs.count true : Nat)) H
theorem cnt_isT : ∀ {bs : List Bool} {us : List Value}, Vals (bs.map V.bl) us → us.countP isT = bs.count true
  | [], _, r => by cases r; rfl
  | b :: bs, _, r => by
    cases r with
    | cons r1 r2 =>
      have ih := cnt_isT r2
      rename_i u us'
      obtain rfl : u = Value.bool b := r1
      rw [List.countP_cons, ih, List.count_cons]
      cases b <;> rfl
theorem mem_vals : ∀ {bs : List Bool} {us : List Value}, Vals (bs.map V.bl) us → ∀ y ∈ us, ∃ b, y = Value.bool b
  | [], _, r, y, hy => by cases r; cases hy
  | b :: bs, _, r, y, hy => by
    cases r with
    | cons r1 r2 =>
      rcases List.mem_cons.mp hy with rfl | hy
      · exact ⟨b, r1⟩
      · exact mem_vals r2 y hy
theorem mt_cntT : MtR X "list.count" (rCntT X.K) := by
  intro pins s σ H x xs v us Q I rx rxs h
  obtain ⟨p, bs, rfl, rfl, hs, q⟩ := h
  cases rx
  obtain ⟨u, rfl, ru⟩ := rxs.one
  obtain rfl : u = Value.bool true := ru
  obtain ⟨its, rv, ⟨⟨cls, dd, data, sl⟩, n, ho, hc, hdn, hd⟩, hlen⟩ := I.list hs
  simp only at hc hd
  subst hc hd
  refine call_meets PySem.F.slot_list_count ⟨_, ho, rfl⟩ PySem.F.entry_list_count (PySem.F.args_list_count_2 _ _)
    (SeqAt.list_countAt p its.toArray n dd sl (.bool true) isT) ⟨ho, fun y hy => ?_, ?_⟩
  · obtain ⟨b, rfl⟩ := mem_vals rv y (by simpa using hy)
    have z := eqAt_V (A := X.A.in1) (s := s) (y := .bl b) (x := .bl true) (u := .bool b) (v := .bool true) rfl rfl rfl rfl
    have e : eqV (.bl b) (.bl true) = isT (.bool b) := by cases b <;> rfl
    rw [e] at z
    exact z
  · refine ⟨.int (bs.count true : Nat), H, I.tok _, ⟨s.toks, ?_⟩, q⟩
    have ec : its.toArray.toList.countP isT = bs.count true := cnt_isT rv
    rw [ec]
end
end Hw

set_option Elab.async false
set_option linter.all false
set_option maxRecDepth 100000
set_option maxHeartbeats 4000000
namespace Hw
open PySem L2 PyProof.Rows
section
variable {t u : TS} {te ta tb : TE} {g : TG} {D : Ends} {σ : L2.St} {H : Hp} {Q : VK} {tl tr : TA} {r : R2} {QA : List V → Hp → Prop} {sp : Sp} {dvs : List V} {E : XK}
theorem r_seq (h : t { D with nx := u D } σ H) : tSeq t u D σ H := h
theorem r_asg (h : te σ H fun x H1 => g x σ H1 D.nx) : tAsg te g D σ H := h
theorem r_ret (h : te σ H D.rt) : tRet te D σ H := h
theorem r_cons (h : te σ H fun x H1 => tr σ H1 fun xs H2 => QA (x :: xs) H2) : tCons te tr σ H QA := h
theorem r_op (h : ta σ H fun x H1 => tb σ H1 fun y H2 => r x y H2 Q) : tOp r ta tb σ H Q := h
theorem r_call (h : tl σ H fun vs H1 => sp (vs ++ dvs) H1 Q E) : tCall sp dvs E tl σ H Q := h
theorem r_var {i : Nat} {v : V} (e : σ[i]? = some (some v)) (h : Q v H) : tVar i σ H Q := ⟨v, e, h⟩
end
theorem lst_use {ta : TA} {ds : List PyData} {a : Addr} {σ : L2.St} {H : Hp} {Q : VK} (ha : H a ≠ none) (q : ∀ p xs H', Same H H' → H' p = some (.lst xs) → p ≠ a → DxAll a H' xs ds → Q (.ref p) H') (m : MkA ta ds) (hl : ds.length ≤ 1000) : tLst ta σ H Q :=
  mk_lst m hl a σ H Q ha fun v H' s x => by
    cases x with
    | flat e => cases v <;> cases e
    | lst h1 n1 x1 => exact q _ _ H' s h1 n1 x1
section
variable {t u : TS} {te to : TE} {D : Ends} {σ : L2.St} {H : Hp} {i : Nat} {c : TT} {ta : TA} {K : PySem.W.Frag} {T : String} {r : V → List V → Hp → VK → Prop}
theorem rs_set (h : te σ H fun x H1 => u D (σ.set i (some x)) H1) : tSeq (tAsg te (gName i)) u D σ H := h
theorem rs_bm (h : to σ H fun x H1 => tyV K T x H1 ∧ ta σ H1 fun xs H2 => r x xs H2 fun _ H3 => u D σ H3) : tSeq (tDrop (tBM K T r to ta)) u D σ H := h
theorem rs_ifR (h : c σ H fun b H1 => if b = true then te σ H1 D.rt else u D σ H1) : tSeq (tIfS c (tRet te) tNext) u D σ H := h
theorem r1_ifR (h : c σ H fun b H1 => if b = true then te σ H1 D.rt else D.nx σ H1) : tIfS c (tRet te) tNext D σ H := h
end
/-! tests that come out false, new objects apart -/
def AnsF (t : TT) (σ : L2.St) (H : Hp) : Prop := ∀ Q : Bool → Hp → Prop, (∀ H', Same H H' → Q false H') → t σ H Q
section
variable {t u : TT} {σ : L2.St} {H : Hp} {te : TE} {us : TS} {D : Ends}
theorem ansF_or (h1 : AnsF t σ H) (h2 : ∀ H', Same H H' → AnsF u σ H') : AnsF (tOr t u) σ H := fun Q q =>
  h1 _ fun H1 s1 => by
    show if false = true then Q true H1 else u σ H1 Q
    rw [if_neg Bool.false_ne_true]
    exact h2 H1 s1 Q fun H2 s2 => q H2 (s1.trans s2)
theorem rs_skip (h1 : AnsF t σ H) (h : ∀ H', Same H H' → us D σ H') : tSeq (tIfS t (tRet te) tNext) us D σ H := h1 _ fun H1 s1 => by
  show if false = true then _ else _
  rw [if_neg Bool.false_ne_true]
  exact h H1 s1
theorem r1_skip (h1 : AnsF t σ H) (h : ∀ H', Same H H' → D.nx σ H') : tIfS t (tRet te) tNext D σ H := h1 _ fun H1 s1 => by
  show if false = true then _ else _
  rw [if_neg Bool.false_ne_true]
  exact h H1 s1
end
section
variable {u : TS} {D : Ends} {σ : L2.St} {H : Hp} {i j : Nat} {ta : TA} {v : V} {Q : L2.St → Hp → Prop}
theorem rs_par (h : ta σ H fun vs H1 => ∃ v w, vs = [v, w] ∧ u D ((σ.set i (some v)).set j (some w)) H1) : tSeq (tPar i j ta) u D σ H := h
theorem r_gname (h : Q (σ.set i (some v)) H) : gName i v σ H Q := h
end
theorem rs_enum {K : PySem.W.Frag} {u tb : TS} {g : TG} {D : Ends} {σ : L2.St} {H : Hp} {i : Nat} {p : Addr} {xs : List V} (e : σ[i]? = some (some (.ref p))) (hs : SqL K H p xs) (Pv : Nat → L2.St → Hp → Prop) (h0 : Pv 0 σ H)
    (hG : ∀ j σ H, j ≤ xs.length → Pv j σ H → SqL K H p xs)
    (turn : ∀ j x σ H T, j < xs.length → Pv j σ H → H T = none → xs[j]? = some x → g (.ref T) σ (upd H T (.tup [.int (j : Int), x])) fun σ2 H2 => tb { D with nx := Pv (j + 1), ct := Pv (j + 1), bk := u D } σ2 H2)
    (done : ∀ σ H, Pv xs.length σ H → u D σ H) : tSeq (tFor (iEnum K (tCons (tVar i) tNil)) g tb) u D σ H :=
  ⟨.ref p, e, p, xs, rfl, hs, for_it walk_enum Pv h0 hG (fun j x σ H H' hj hp ⟨T, xa, ya, ex, nT, eH, e1, e2⟩ => by
    subst ex eH
    obtain rfl : V.int (j : Int) = xa := Option.some.inj e1
    exact turn j ya σ H T hj hp nT e2) done⟩
theorem paired_at {α β : Type} {F : α → β → Prop} : ∀ {xs : List α} {ys : List β} {i : Nat} {y : β}, Paired F xs ys → ys[i]? = some y → ∃ x, xs[i]? = some x ∧ F x y
  | _, _, _, _, .nil, e => by simp at e
  | _, _, 0, _, .cons a _, e => by simp at e; subst e; exact ⟨_, rfl, a⟩
  | _, _, i + 1, y, .cons _ t, e => by
    obtain ⟨x, h1, h2⟩ := paired_at (i := i) t (by simpa using e)
    exact ⟨x, by simpa using h1, h2⟩
theorem r_yes {σ : L2.St} {H : Hp} {te : TE} {Q1 : VK} {B : Prop} (h : te σ H Q1) : tYes σ H fun b H3 => if b = true then te σ H3 Q1 else B := by
  show if true = true then te σ H Q1 else B
  rw [if_pos rfl]
  exact h
end Hw

set_option Elab.async false
set_option linter.all false
set_option maxRecDepth 100000
set_option maxHeartbeats 4000000
namespace HN
open PySem PySem.Spec PyProof.Rows PySem.SeqAt
section
variable {prog : Program} {w : World} {A : Around} {E : Value → Shared → Prop} {s : Shared} {K : PySem.W.Frag} {x C f : Addr} {ox : Obj} {od : Option Obj} {b tb : Value}
/-- how an answer is turned about -/
def NotBack (Q : Value → Shared → Prop) (v : Value) (s' : Shared) : Prop := ∃ r, v = .bool r ∧ Q (.bool (!r)) s'
theorem ne_entry {Q : Fin → Shared → Prop} (hu : A.units < cLine) (X : K.In s.heap) (I : PySem.W.InstAt s.heap x ox C od) (hs : PySem.W.findIn K (.ref C) "__eq__" = some (some (.ref f))) (hf : PySem.W.isFn K (.ref f) = true)
    (h : wpAny (model prog w) A (call (.ref f) [.ref x, b]) (NotBack fun v s' => Q (.done (.ret v)) s') E s) : wpAny (model prog w) A (Builtin.«object.__ne__» ⟨[.ref x, b], []⟩) Q E s := by
  have one : wpAny (model prog w) A (callSpecialIfBound? (.ref x) "__eq__" [b]) (fun r s' => ∃ q, r = some (.bool q) ∧ Q (.done (.ret (.bool (!q)))) s') E s :=
    PySem.W.ifBound_K X I hs hf (wpAny_mono h (fun v s' z => by
      obtain ⟨r, e, q⟩ := z
      exact ⟨r, by rw [e], q⟩) fun _ _ e => e)
  unfold Builtin.«object.__ne__»
  repeat (first
    | with_reducible refine wpAny_cRoomFor hu ?_
    | (refine wpAny_bind (m := callSpecialIfBound? (.ref x) (Str.ofString "__eq__") [b]) (wpAny_mono one (fun r s' z => by
        obtain ⟨q, e, hq⟩ := z
        subst e
        repeat (first | exact hq | exact wpAny_pure hq | exact wpAny_truthy_bool hq | (refine wpAny_bind (m := truthy (.bool _)) (wpAny_truthy_bool ?_)) | wp_step)) fun _ _ e => e))
    | wp_step)
theorem ifBound_objNe {M : Model} {args : List Value} {Q : Option Value → Shared → Prop} (X : K.In s.heap) (I : PySem.W.InstAt s.heap x ox C od) (hs : PySem.W.findIn K (.ref C) "__ne__" = some (some (.builtin "object.__ne__")))
    (h : wpAny M A (call (.builtin "object.__ne__") (.ref x :: args)) (fun v => Q (some v)) E s) : wpAny M A (callSpecialIfBound? (.ref x) "__ne__" args) Q E s := by
  simp only [callSpecialIfBound?, bindSpecialIfBound?]
  refine wpAny_holding (wpAny_bind (wpAny_bind (wpAny_bind (I.type.here ((PySem.W.looks_findIn X hs).here ?_)))))
  refine wpAny_bind (wpAny_askSetting (wpAny_ite ?_))
  have last : wpAny M A (call (.builtin "object.__ne__") ([.ref x] ++ args) >>= fun v => pure (some v)) Q E s := wpAny_bind (wpAny_mono h (fun v s' z => wpAny_pure z) fun _ _ z => z)
  have nb := F.cmp_object.ne.bind
  split
  · exact wpAny_bind (wpAny_of_eq (nb _) (wpAny_pure (by exact last)))
  · exact wpAny_tryCatch (wpAny_bind (wpAny_of_eq (nb _) (wpAny_pure (by exact last))))
theorem rich_ne {Q : Value → Shared → Prop} (hu : A.units + 1 < cLine) (X : K.In s.heap) (I : PySem.W.InstAt s.heap x ox C od) (hb : PySem.W.Looks (model prog w) s.heap (typeOf b) tb) (hn : PySem.W.notFirst K C tb = true)
    (hm : PySem.W.mroIn K C (.type "object") = some true) (hs : PySem.W.findIn K (.ref C) "__eq__" = some (some (.ref f))) (hf : PySem.W.isFn K (.ref f) = true) (hne : PySem.W.findIn K (.ref C) "__ne__" = some (some (.builtin "object.__ne__")))
    (h : wpAny (model prog w) A.in1 (call (.ref f) [.ref x, b]) (NotBack Q) E s) : wpAny (model prog w) A (richCompare .NotEq (.ref x) b) Q E s := by
  have one : wpAny (model prog w) A (tryCompare (.ref x) "__ne__" b) (fun r s' => ∃ v, r = some v ∧ Q v s') E s := by
    unfold tryCompare
    refine wpAny_bind (ifBound_objNe X I hne (wpAny_call (codeAny_call_builtin F.cmp_object.ne.plain F.cmpEntry_ne (PySem.W.check_slot F.cmpKind_ne F.cmpSplit_ne (I.type.andThen (PySem.W.looks_mroIn X hm)) (F.cmpArgs_ne _ _) (ne_entry (A := A.in1) hu X I hs hf (wpAny_mono h (fun v s' z => ?_) fun _ _ e => e))))))
    obtain ⟨r, e, q⟩ := z
    refine ⟨r, e, ?_⟩
    exact wpAny_pure ⟨_, rfl, q⟩
  simp only [richCompare, cmpInfo_NotEq, oneThing_ref]
  refine wpAny_holding (wpAny_bind (wpAny_cRoomFor (Nat.lt_of_succ_lt hu) ?_))
  refine wpAny_bind (I.type.here (wpAny_bind (hb.here ?_)))
  split
  · rename_i q
    have e : PySem.W.subIn K tb (.ref C) = some false := by
      have hn' := hn
      unfold PySem.W.notFirst at hn'
      rcases Bool.or_eq_true_iff.mp hn' with e | e
      · rw [beq_iff_eq.mp e] at q; simp at q
      · exact beq_iff_eq.mp e
    refine wpAny_bind ((PySem.W.looks_subIn X e).here ?_)
    simp only [Bool.false_eq_true, if_false]
    refine wpAny_bind (wpAny_mono one (fun r s' z => ?_) fun _ _ z => z)
    obtain ⟨v, e, hq⟩ := z
    subst e
    exact wpAny_pure hq
  · refine wpAny_bind (wpAny_pure ?_)
    simp only [Bool.false_eq_true, if_false]
    refine wpAny_bind (wpAny_mono one (fun r s' z => ?_) fun _ _ z => z)
    obtain ⟨v, e, hq⟩ := z
    subst e
    exact wpAny_pure hq
end
end HN
namespace Hw
open PySem L2 PyProof.Rows
/-- x == y (or !=) where x has a class of the text with its own == -/
def rEqU (K : PySem.W.Frag) (C : Addr) (sp : Sp) (E : XK) (neg : Bool) : R2 := fun x y H Q => ∃ a dx fs t, x = .ref a ∧ H a = some (.ins C dx fs) ∧ TyX K H y t ∧ PySem.W.notFirst K C t = true ∧ sp [.ref a, y] H (fun v H' => ∃ b, v = .bl b ∧ Q (.bl (b != neg)) H') E
/-- the class's own comparison -/
structure EqM (K : PySem.W.Frag) (C f : Addr) : Prop where
  eq : PySem.W.findIn K (.ref C) "__eq__" = some (some (.ref f))
  fn : PySem.W.isFn K (.ref f) = true
  ne : PySem.W.findIn K (.ref C) "__ne__" = some (some (.builtin "object.__ne__"))
  obj : PySem.W.mroIn K C (.type "object") = some true
section
variable {X : Cx} {n : Nat} {CX : CXT} {C f : Addr} {fd : FuncData} {ps : List Str} {sp : Sp} {E : XK}
theorem own_run (F : FnOk X.prog X.w X.K X.mg X.base CX n f fd ps sp) (hb : Binds X.K fd ps []) (hx : Passes CX X E) {A : Around} (hr : Room n A) (hfr : A.frames = X.A.frames) {pins : List (Addr × Obj)} {σ : L2.St} {H : Hp} {s : Shared} {vs : List V} {us : List Value} (I : Inv X pins σ H s) (r2 : Vals vs us) {R : VK}
    (hsp : sp vs H R E) {QQ : Value → Shared → Prop} (hq : ∀ z u H' s', Inv X pins σ H' s' → RelV z u → R z H' → QQ u s') : wpAny (model X.prog X.w) A (call (.ref f) us) QQ X.xe s := by
  have e0 : Env0 X.prog X.w X.K X.mg X.base A X.stack s H := by
    have e := I.env0
    exact ⟨by rw [hfr]; exact e.frames, e.mod, e.bs, e.bsz, e.funs, e.frf, e.hok, e.bare⟩
  have hl := F.len _ _ _ _ hsp
  have hl2 : us.length = vs.length := (Vals.length r2).symm
  refine wpAny_call (codeAny_mono (F.run A X.stack s H ⟨us, []⟩ us vs _ E hr e0 (by
    have := hb s us I.kIn (by simpa [hl2] using hl)
    simpa using this) r2 hsp) fun r s' z => ?_)
  cases r with
  | error e => exact hx pins σ H s e s' I z
  | ok fl =>
    cases fl with
    | ret u =>
      obtain ⟨z, H', I', rz, q⟩ := I.after z
      exact hq z u H' s' I' rz q
    | next => exact False.elim z
    | brk => exact False.elim z
    | cont => exact False.elim z
theorem eqU_run (F : FnOk X.prog X.w X.K X.mg X.base CX n f fd ps sp) (hb : Binds X.K fd ps []) (hx : Passes CX X E) {A : Around} (hr : Room n A) (hfr : A.frames = X.A.frames) {pins : List (Addr × Obj)} {σ : L2.St} {H : Hp} {s : Shared} {a : Addr} {y : V} {v : Value} (I : Inv X pins σ H s) (ry : RelV y v) {R : Bool → Hp → Prop}
    (hsp : sp [.ref a, y] H (fun z H' => ∃ b, z = .bl b ∧ R b H') E) {QQ : Value → Shared → Prop} (hq : ∀ b H' s', Inv X pins σ H' s' → R b H' → QQ (.bool b) s') : wpAny (model X.prog X.w) A (call (.ref f) [.ref a, v]) QQ X.xe s :=
  own_run F hb hx hr hfr I (.cons (show RelV (V.ref a) (Value.ref a) from rfl) (.cons ry .nil)) hsp fun z u H' s' I' rz ⟨b, ez, q⟩ => by
    subst ez
    cases rz
    exact hq b H' s' I' q
/-- len of an object with its own __len__ -/
theorem call_lenU (F : FnOk X.prog X.w X.K X.mg X.base CX n f fd ps sp) (hb : Binds X.K fd ps []) (hx : Passes CX X E) (hs : PySem.W.findIn X.K (.ref C) "__len__" = some (some (.ref f))) (hf : PySem.W.isFn X.K (.ref f) = true) (hr : Room (n + 1) X.A) :
    CallR X (.builtin "len") (fun xs H Q => ∃ a dx fs, xs = [V.ref a] ∧ H a = some (.ins C dx fs) ∧ sp [.ref a] H (fun v H' => ∃ k : Nat, v = .int k ∧ k ≤ 1000000 ∧ Q (.int k) H') E) := by
  intro pins s σ H xs us Q I r h
  obtain ⟨a, dx, fs, rfl, ha, hsp⟩ := h
  obtain ⟨u, rfl, ru⟩ := vals1 r
  cases ru
  obtain ⟨m1, J, _⟩ := ins_get I.hok ha
  obtain ⟨od, J, _⟩ := J.look
  obtain ⟨m, hF⟩ := I.fr
  refine PySem.W.len_K hF I.ok.mod.kin J hs hf ?_
  refine own_run F hb hx hr.in1 rfl I (.cons (show RelV (V.ref a) (Value.ref a) from rfl) .nil) hsp fun z u H' s' I' rz q => ?_
  obtain ⟨k, ez, hk, q⟩ := q
  subst ez
  obtain ⟨t, rfl⟩ := rz
  exact ⟨⟨by omega, by have : (2 : Int) ^ 63 = 9223372036854775808 := by decide
                       omega⟩, .int k, H', I'.tok _, ⟨_, rfl⟩, q⟩
theorem op_eqU (F : FnOk X.prog X.w X.K X.mg X.base CX n f fd ps sp) (hb : Binds X.K fd ps []) (hx : Passes CX X E) (M : EqM X.K C f) (hr : Room n X.A) : OpR X (compareOp .Eq) (rEqU X.K C sp E false) := by
  intro pins s σ H x y v u Q I rx ry hq
  obtain ⟨a, dx, fs, t, rfl, ha, ty, nf, hsp⟩ := hq
  cases rx
  obtain ⟨m1, J, _⟩ := ins_get I.hok ha
  obtain ⟨od, J, _⟩ := J.look
  obtain ⟨m, hF⟩ := I.fr
  obtain ⟨Pk, Z, pk, _⟩ := kit_of I ry ty
  refine PySem.W.cmp_K (op := .Eq) (tb := t) hr.units0 hF I.ok.mod.kin J (Z.ty _ _ I.kIn pk) nf M.eq M.fn ?_
  exact eqU_run F hb hx hr rfl I ry hsp fun b H' s' I' q => ⟨.bl b, H', I', rfl, by simpa using q⟩
theorem op_neU (F : FnOk X.prog X.w X.K X.mg X.base CX n f fd ps sp) (hb : Binds X.K fd ps []) (hx : Passes CX X E) (M : EqM X.K C f) (hr : Room (n + 1) X.A) : OpR X (compareOp .NotEq) (rEqU X.K C sp E true) := by
  intro pins s σ H x y v u Q I rx ry hq
  obtain ⟨a, dx, fs, t, rfl, ha, ty, nf, hsp⟩ := hq
  cases rx
  obtain ⟨m1, J, _⟩ := ins_get I.hok ha
  obtain ⟨od, J, _⟩ := J.look
  obtain ⟨Pk, Z, pk, _⟩ := kit_of I ry ty
  refine HN.rich_ne (tb := t) (by have := hr.units; omega) I.kIn J (Z.ty _ _ I.kIn pk) nf M.obj M.eq M.fn M.ne ?_
  exact eqU_run F hb hx hr.in1 rfl I ry hsp fun b H' s' I' q => ⟨b, rfl, ⟨.bl (!b), H', I', rfl, by cases b <;> simpa using q⟩⟩
end
end Hw

set_option Elab.async false
set_option linter.all false
set_option maxRecDepth 100000
set_option maxHeartbeats 4000000
namespace Hw
open PySem L2 PyProof.Rows
def topS (i : Nat) : Stmt := PySem.Challenge.pw_healedwebs_k03_whole_parts_and_farthest.main.body.getD i (.Pass ⟨0, 0, 0, 0⟩)
abbrev sPot : Stmt := topS 22
abbrev sTake : Stmt := topS 23
abbrev sOf : Stmt := topS 24
abbrev sCells : Stmt := topS 25
section
variable {P : Program} {w : World} {K : PySem.W.Frag} {mg : Str → Option Value} {base : Heap}
theorem scPot : FnScope ["script", "place", "cell", "own", "small"] ["script", "place"] (defScope sPot) := ⟨rfl, rfl, rfl, by decide +kernel, rfl, by decide +kernel, by decide +kernel⟩
theorem scTake : FnScope ["pot", "upto", "digit", "prime", "blend"] ["pot", "upto"] (defScope sTake) := ⟨rfl, rfl, rfl, by decide +kernel, rfl, by decide +kernel, by decide +kernel⟩
theorem scOf : FnScope ["pot", "some"] ["pot", "some"] (defScope sOf) := ⟨rfl, rfl, rfl, by decide +kernel, rfl, by decide +kernel, by decide +kernel⟩
theorem scCells : FnScope ["script", "most"] ["script", "most"] (defScope sCells) := ⟨rfl, rfl, rfl, by decide +kernel, rfl, by decide +kernel, by decide +kernel⟩
theorem b01 (b : Prop) [Decidable b] : -(2 ^ 64) < (if b then (1 : Int) else 0) ∧ (if b then (1 : Int) else 0) < 2 ^ 64 := by
  split <;> exact ⟨by decide, by decide⟩
/-- names of the built-ins -/
structure Blt (mg : Str → Option Value) : Prop where
  len : mg "len" = none
  sum : mg "sum" = none
  int : mg "int" = none
  abs : mg "abs" = none
  list : mg "list" = none
  range : mg "range" = none
  max : mg "max" = none
  min : mg "min" = none
theorem ok_pot {f : Addr} {fd : FuncData} {k : Nat} (F : Fun K "_law_pot" "_law_pot" sPot f fd) (B : Blt mg) : FnOk P w K mg base CX0 (k + 1) f fd ["script", "place"] (spPot K) := by
  refine F.ok scPot (fun vs H Q E h => ?_) (fun cdv A outer s H vs Q E hr h => ?_)
  · obtain ⟨a, ns, i, rfl, _⟩ := h
    rfl
  · obtain ⟨a, ns, i, rfl, hS, hlen, h0, h1, q⟩ := h
    refine ⟨_, Evl.pss_cut (ps_set (i := 2) scPot.nd rfl (.inl rfl) (pe_ifExp (pt_cmpR op_lt (pv 1) (pe_callB call_len_seq (by rfl) B.len PySem.boot_len (pa_cons (pv 0) pa_nil)) (nomark _))
        (pe_ix ix_list (pv 0) (pv 1) (fun _ _ => rfl))
        (pe_op op_add (pe_op op_add (pe_op op_mod (pe_callB (cr_sum rfl) (by rfl) B.sum PyProof.Rows.boot_sum (pa_cons (pe_slice sl_list (pv 0) po_none (po_some pe_int)) pa_nil)) pe_int) (pe_op op_mul pe_int (pv 1))) pe_int)))
      (pss_cons (ps_set (i := 3) scPot.nd rfl (.inl rfl) (pe_op op_mul (pe_op op_mod (pe_callTy call_int1 (by rfl) B.int PyProof.Rows.boot_int (pa_cons (pe_callB call_abs (by rfl) B.abs PyProof.Rows.boot_abs (pa_cons (pv 2) pa_nil)) pa_nil))
          (pe_op op_powW (pe_op op_powW pe_int pe_int) pe_int))
          (pe_callTy call_int1 (by rfl) B.int PyProof.Rows.boot_int (pa_cons (pe_cmpR op_ge (pe_callB call_abs (by rfl) B.abs PyProof.Rows.boot_abs (pa_cons (pv 2) pa_nil)) (pe_op op_powW pe_int pe_int) (nomark _)) pa_nil))))
      (pss_cons (ps_set (i := 4) scPot.nd rfl (.inl rfl) (pe_op op_mod (pe_callTy call_int1 (by rfl) B.int PyProof.Rows.boot_int (pa_cons (pv 2) pa_nil)) pe_int))
      (pss_one (ps_ret (pe_lst (pa_cons (pv 3) (pa_cons (pe_op op_mod (pe_callTy call_int1 (by rfl) B.int PyProof.Rows.boot_int (pa_cons
        (pe_op op_add (pe_op op_add (pe_op op_mul (pv 4) pe_int) (pe_op op_mul (pe_op op_mul pe_int (pv 1)) (pv 1))) pe_int) pa_nil)) pe_int) (pa_cons pe_int pa_nil)))))))), ?_⟩
    -- the cell: any int, whatever the way
    refine ⟨fun σ' H' => ∃ c : Int, σ' = [some (.ref a), some (.int i), some (.int c), none, none] ∧ Same H H', ?_, ?_⟩
    · refine ⟨_, rfl, .ref a, rfl, a, ns.map V.int, rfl, .inl hS, _, _, rfl, rfl, _, rfl, ite2 (fun e => ?_) (fun e => ?_)⟩
      · have e' : i < (ns.map V.int).length := of_decide_eq_true e
        obtain ⟨j, rfl⟩ : ∃ j : Nat, i = (j : Int) := ⟨i.toNat, by omega⟩
        have hj : j < ns.length := by rw [List.length_map] at e'; omega
        refine ⟨.ref a, rfl, .int (j : Int), rfl, a, _, _, .int ns[j], rfl, rfl, hS, atI_nat (j := j) ?_, ns[j], rfl, Same.refl H⟩
        rw [List.getElem?_map, List.getElem?_eq_getElem hj]; rfl
      · refine ⟨.ref a, rfl, 1, rfl, a, _, rfl, hS, fun c nc => ?_⟩
        have s1 : Same H (upd H c (.lst (cutV (ns.map V.int) none (some 1)))) := same_upd nc
        have ec : cutV (ns.map V.int) none (some 1) = (ns.take 1).map V.int := by
          unfold cutV
          rw [show HT.sIx (ns.map V.int).length (ns.map V.int).length (some 1) = min 1 (ns.map V.int).length from HT.sIx_nat _ _ 1, HT.sIx_none]
          rw [List.length_map, List.drop_zero, Nat.sub_zero, List.map_take]
          rw [List.take_eq_take_iff, List.length_map]; omega
        refine ⟨c, ns.take 1, rfl, sql_of (by rw [upd_same, ec]), ?_⟩
        refine ⟨_, _, rfl, rfl, (by show (0 : Int) < 1000003; decide), .int i, rfl, _, _, rfl, rfl, .inl ⟨by decide, by decide⟩, _, _, rfl, rfl, _, _, rfl, rfl, _, rfl, s1⟩
    · rintro σ' H1 ⟨c, rfl, s1⟩
      refine ⟨.int c, rfl, c, rfl, .inl ⟨_, rfl, _, _, rfl, rfl, ⟨by decide, by decide +kernel⟩, _, _, rfl, rfl, ⟨by decide, by decide +kernel⟩, _, _, rfl, rfl, (by show (0 : Int) < ((10 : Int) ^ Int.toNat 60) ^ Int.toNat 5; decide +kernel), ?_⟩⟩
      refine ⟨.int c, rfl, c, rfl, _, _, rfl, rfl, ⟨by decide, by decide +kernel⟩, _, _, rfl, rfl, .inr ⟨_, rfl, _, _, rfl, rfl, .inr ?_, ?_⟩⟩
      · exact b01 _
      have own0 : ∀ (x m : Int) (b : Prop) [Decidable b], m ≠ 0 → 0 ≤ x % m * (if b then 1 else 0) := fun x m b _ hm => Int.mul_nonneg (Int.emod_nonneg _ hm) (by split <;> decide)
      refine ⟨.int c, rfl, .inl ⟨_, rfl, _, _, rfl, rfl, (by show (0 : Int) < 2305843009213693951; decide), ?_⟩⟩
      have e0 := Int.emod_nonneg c (show (2305843009213693951 : Int) ≠ 0 by decide)
      have e1 := Int.emod_lt_of_pos c (show (0 : Int) < 2305843009213693951 by decide)
      refine ⟨_, rfl, .int (c % 2305843009213693951), rfl, _, _, rfl, rfl, .inl ⟨by omega, by omega⟩, .int i, rfl, _, _, rfl, rfl, .inl ⟨by decide, by decide⟩, .int i, rfl, _, _, rfl, rfl, .inr ⟨by omega, by omega⟩,
        _, _, rfl, rfl, _, _, rfl, rfl, .inl ⟨_, rfl, _, _, rfl, rfl, (by show (0 : Int) < 2305843009213693921; decide), by show 3 ≤ sizeLine; decide, fun p hp => ?_⟩⟩
      refine q p _ (s1.trans (same_upd hp)) (s1.free hp) ⟨⟨_, _, _, upd_same, own0 _ _ _ (by decide +kernel), Int.emod_nonneg _ (by decide), ?_, by decide, by decide⟩⟩
      exact Int.lt_of_lt_of_le (Int.emod_lt_of_pos _ (by decide)) (by decide)
theorem ok_take {f : Addr} {fd : FuncData} {k : Nat} (F : Fun K "_law_take" "_law_take" sTake f fd) (B : Blt mg) : FnOk P w K mg base CX0 (k + 1) f fd ["pot", "upto"] spTake := by
  refine F.ok scTake (fun vs H Q E h => ?_) (fun cdv A outer s H vs Q E hr h => ?_)
  · obtain ⟨a, u, N, rfl, _⟩ := h
    rfl
  · obtain ⟨a, u, N, rfl, hP, hN, hu0, hu1, q⟩ := h
    refine ⟨_, pss_cons (ps_if (pt_cmpR op_gt (pe_ix ix_list (pv 0) pe_int (fun _ _ => rfl)) pe_int (nomark _))
        (pss_cons (ps_set (i := 2) scTake.nd rfl (.inl rfl) (pe_op op_mod (pe_callTy call_int1 (by rfl) B.int PyProof.Rows.boot_int (pa_cons (pe_ix ix_list (pv 0) pe_int (fun _ _ => rfl)) pa_nil)) (pv 1)))
        (pss_cons (ps_asg (pe_op op_fdiv (pe_ix ix_list (pv 0) pe_int (fun _ _ => rfl)) (pv 1)) (pg_sub (pv 0) pe_int set_list))
        (pss_one (ps_ret (pv 2))))) pss_nil)
      (pss_cons (ps_asg (pe_op op_add (pe_ix ix_list (pv 0) pe_int (fun _ _ => rfl)) pe_int) (pg_sub (pv 0) pe_int set_list))
      (pss_cons (ps_set (i := 3) scTake.nd rfl (.inl rfl) (pe_ix ix_list (pe_lst (pa_cons pe_int (pa_cons pe_int (pa_cons pe_int (pa_cons pe_int (pa_cons pe_int pa_nil))))))
          (pe_op op_mod (pe_callTy call_int1 (by rfl) B.int PyProof.Rows.boot_int (pa_cons (pe_ix ix_list (pv 0) pe_int (fun _ _ => rfl)) pa_nil)) pe_int) (fun _ _ => rfl)))
      (pss_cons (ps_set (i := 4) scTake.nd rfl (.inl rfl) (pe_op op_mod (pe_callTy call_int1 (by rfl) B.int PyProof.Rows.boot_int (pa_cons (pe_op op_powW (pe_callTy call_int1 (by rfl) B.int PyProof.Rows.boot_int (pa_cons
          (pe_op op_add (pe_op op_add (pe_ix ix_list (pv 0) pe_int (fun _ _ => rfl)) (pe_op op_mul (pe_op op_mul pe_int (pe_ix ix_list (pv 0) pe_int (fun _ _ => rfl))) (pe_ix ix_list (pv 0) pe_int (fun _ _ => rfl)))) pe_int) pa_nil)) pe_int) pa_nil)) (pv 3)))
      (pss_cons (ps_set (i := 4) scTake.nd rfl (.inl rfl) (pe_op op_mod (pe_callTy call_int1 (by rfl) B.int PyProof.Rows.boot_int (pa_cons (pe_op op_mul (pv 4) (pe_op op_add (pe_op op_mod (pe_callTy call_int1 (by rfl) B.int PyProof.Rows.boot_int (pa_cons (pv 4) pa_nil)) pe_int)
          (pe_op op_mul pe_int (pe_ix ix_list (pv 0) pe_int (fun _ _ => rfl))))) pa_nil)) pe_int))
      (pss_one (ps_ret (pe_op op_mod (pe_callTy call_int1 (by rfl) B.int PyProof.Rows.boot_int (pa_cons (pe_op op_fdiv (pv 4) pe_int) pa_nil)) (pv 1)))))))), ?_⟩
    obtain ⟨x, y, z, e, hx, hy, hy1, hz, hz1⟩ := hP.ex
    have hS : SqL K H a [.int x, .int y, .int z] := sql_of e
    refine ⟨.ref a, rfl, a, _, 0, .int x, rfl, rfl, hS, rfl, _, _, rfl, rfl, _, rfl, ite2 (fun c => ?_) (fun c => ?_)⟩
    · have c' : 0 < x := of_decide_eq_true c
      refine ⟨.ref a, rfl, a, _, 0, .int x, rfl, rfl, hS, rfl, .inl ⟨x, rfl, .int u, rfl, _, _, rfl, rfl, hu0, ?_⟩⟩
      refine ⟨.ref a, rfl, a, _, 0, .int x, rfl, rfl, hS, rfl, .int u, rfl, _, _, rfl, rfl, ⟨hu0, by omega⟩, .ref a, rfl, a, _, 0, 0, rfl, rfl, e, rfl, ?_⟩
      refine ⟨.int (x % u), rfl, ?_⟩
      exact q _ _ (Int.emod_nonneg _ (by omega)) (Int.emod_lt_of_pos _ hu0) ((SameX.refl a H).put) ⟨⟨_, y, z, upd_same, Int.ediv_nonneg hx (by omega), hy, hy1, hz, by omega⟩⟩
    · refine ⟨.ref a, rfl, a, _, 2, .int z, rfl, rfl, hS, rfl, _, _, rfl, rfl, .ref a, rfl, a, _, 2, 2, rfl, rfl, e, rfl, ?_⟩
      have e2 : upd H a (.lst ([V.int x, .int y, .int z].set 2 (.int (z + 1)))) a = some (.lst [.int x, .int y, .int (z + 1)]) := upd_same
      generalize hH2 : upd H a (.lst ([V.int x, .int y, .int z].set 2 (.int (z + 1)))) = H2 at e2 ⊢
      have s2 : SameX a H H2 := by rw [← hH2]; exact (SameX.refl a H).put
      refine ⟨by show 5 ≤ sizeLine; decide, fun p hp => ?_⟩
      have s3 : Same H2 (upd H2 p (.lst [.int 2147483647, .int 2147483629, .int 2147483587, .int 2147483579, .int 2147483563])) := same_upd hp
      have hp1 : (upd H2 p (.lst [.int 2147483647, .int 2147483629, .int 2147483587, .int 2147483579, .int 2147483563])) p = some (.lst [.int 2147483647, .int 2147483629, .int 2147483587, .int 2147483579, .int 2147483563]) := upd_same
      have e3 := s3 _ _ e2
      have s4 := s2.trans (.of s3)
      generalize (upd H2 p (.lst [.int 2147483647, .int 2147483629, .int 2147483587, .int 2147483579, .int 2147483563])) = H3 at s3 hp1 e3 s4 ⊢
      have hS3 : SqL K H3 a [.int x, .int y, .int (z + 1)] := sql_of e3
      refine ⟨.ref a, rfl, a, _, 2, .int (z + 1), rfl, rfl, hS3, rfl, .inl ⟨_, rfl, _, _, rfl, rfl, (by show (0 : Int) < 5; decide), ?_⟩⟩
      have m0 := Int.emod_nonneg (z + 1) (show (5 : Int) ≠ 0 by decide)
      have m1 := Int.emod_lt_of_pos (z + 1) (show (0 : Int) < 5 by decide)
      obtain ⟨pr, hpr, hp0, hp2⟩ : ∃ pr : Int, atI [V.int 2147483647, .int 2147483629, .int 2147483587, .int 2147483579, .int 2147483563] ((z + 1) % 5) = some (.int pr) ∧ 0 < pr ∧ pr < 2 ^ 31 := by
        generalize (z + 1) % 5 = m at m0 m1
        obtain h | h | h | h | h : m = 0 ∨ m = 1 ∨ m = 2 ∨ m = 3 ∨ m = 4 := by omega
        all_goals (subst h; exact ⟨_, rfl, by decide, by decide⟩)
      refine ⟨p, _, _, .int pr, rfl, rfl, sql_of hp1, hpr, ?_⟩
      -- blend
      refine ⟨.ref a, rfl, a, _, 1, .int y, rfl, rfl, hS3, rfl, .ref a, rfl, a, _, 2, .int (z + 1), rfl, rfl, hS3, rfl, _, _, rfl, rfl, .inl ⟨by decide, by decide⟩,
        .ref a, rfl, a, _, 2, .int (z + 1), rfl, rfl, hS3, rfl, _, _, rfl, rfl, .inr ⟨by omega, by omega⟩, _, _, rfl, rfl, _, _, rfl, rfl, .inl ⟨_, rfl, _, _, rfl, rfl, ⟨by decide, ?_⟩, .inl ⟨_, rfl, .int pr, rfl, _, _, rfl, rfl, hp0, ?_⟩⟩⟩
      · have w0 : 0 ≤ (z + 1) * (z + 1) := Int.mul_nonneg (by omega) (by omega)
        have w1 : (z + 1) * (z + 1) ≤ 1073741824 * 1073741824 := Int.mul_le_mul (by omega) (by omega) (by omega) (by omega)
        have hb : Builtin.Int.intBits (y + 98341 * (z + 1) * (z + 1) + 470) ≤ 100 := by
          refine bits_nat ?_
          rw [Int.mul_assoc]
          generalize (z + 1) * (z + 1) = ww at w0 w1
          omega
        omega
      generalize ((y + 98341 * (z + 1) * (z + 1) + 470) ^ Int.toNat 3) = big
      have b0 := Int.emod_nonneg big (show pr ≠ 0 by omega)
      have b1 := Int.emod_lt_of_pos big hp0
      refine ⟨.int (big % pr), rfl, .int (big % pr), rfl, .inl ⟨_, rfl, _, _, rfl, rfl, (by show (0 : Int) < 10015; decide), .ref a, rfl, a, _, 2, .int (z + 1), rfl, rfl, hS3, rfl, _, _, rfl, rfl, .inl ⟨by decide, by decide⟩, _, _, rfl, rfl,
        _, _, rfl, rfl, .inl ⟨by omega, by omega⟩, .inl ⟨_, rfl, _, _, rfl, rfl, (by show (0 : Int) < 2305843009213693907; decide), ?_⟩⟩⟩
      refine ⟨_, rfl, _, _, rfl, rfl, ⟨by decide, by decide⟩, .inl ⟨_, rfl, .int u, rfl, _, _, rfl, rfl, hu0, ?_⟩⟩
      exact q _ _ (Int.emod_nonneg _ (by omega)) (Int.emod_lt_of_pos _ hu0) s4 ⟨⟨x, y, z + 1, e3, hx, hy, hy1, by omega, by omega⟩⟩
theorem ok_of {f fT : Addr} {fd fdT : FuncData} {k : Nat} (F : Fun K "_law_of" "_law_of" sOf f fd) (B : Blt mg) (GT : FnOk P w K mg base CX0 k fT fdT ["pot", "upto"] spTake) (gT : mg "_law_take" = some (.ref fT)) (kT : PySem.W.keepIn K (.ref fT) = true) (bT : Binds K fdT ["pot", "upto"] []) :
    FnOk P w K mg base CX0 (k + 1) f fd ["pot", "some"] (spOf K) := by
  refine F.ok scOf (fun vs H Q E h => ?_) (fun cdv A outer s H vs Q E hr h => ?_)
  · obtain ⟨a, b, xs, N, rfl, _⟩ := h
    rfl
  · obtain ⟨a, b, xs, N, rfl, hP, hN, hS, hab, h0, h1, q⟩ := h
    refine ⟨_, pss_one (ps_ret (pe_ix ix_list (pv 1) (pe_call GT hr (by rfl) gT kT bT .nil pass0 (pa_cons (pv 0) (pa_cons (pe_callB call_len_seq (by rfl) B.len PySem.boot_len (pa_cons (pv 1) pa_nil)) pa_nil))) (fun _ _ => rfl))), ?_⟩
    refine ⟨.ref b, rfl, .ref a, rfl, .ref b, rfl, b, xs, rfl, .inl hS, a, (xs.length : Int), N, rfl, hP, hN, by omega, by omega, fun r H' r0 r1 sx hP' => ?_⟩
    have hj : r.toNat < xs.length := by omega
    have hS' : SqL K H' b xs := by
      rcases hS with (h | ⟨o, h⟩) | h
      · exact .inl (.inl (sx _ _ (Ne.symm hab) h))
      · exact .inl (.inr ⟨o, sx _ _ (Ne.symm hab) h⟩)
      · exact .inr h
    refine ⟨b, xs, r, xs[r.toNat], rfl, rfl, hS', ?_, q r.toNat _ H' (List.getElem?_eq_getElem hj) sx hP'⟩
    exact at_of (j := r.toNat) (by omega) (List.getElem?_eq_getElem hj)
theorem ok_cells {f : Addr} {fd : FuncData} {k : Nat} (F : Fun K "_law_cells" "_law_cells" sCells f fd) (B : Blt mg) : FnOk P w K mg base CX0 (k + 1) f fd ["script", "most"] (spCells K) := by
  refine F.ok scCells (fun vs H Q E h => ?_) (fun cdv A outer s H vs Q E hr h => ?_)
  · obtain ⟨a, xs, m, rfl, _⟩ := h
    rfl
  · obtain ⟨a, xs, m, rfl, hS, hl, h0, h1, q⟩ := h
    refine ⟨_, pss_one (ps_ret (pe_listRg rfl (by rfl) B.list (prg_1 (by rfl) B.range (pe_callB (call_max2 rfl) (by rfl) B.max PyProof.Rows.boot_max (pa_cons pe_int (pa_cons
      (pe_callB (call_min2 rfl) (by rfl) B.min PyProof.Rows.boot_min (pa_cons (pv 1) (pa_cons (pe_callB call_len_seq (by rfl) B.len PySem.boot_len (pa_cons (pv 0) pa_nil)) pa_nil))) pa_nil)))))), ?_⟩
    refine ⟨.int m, rfl, .ref a, rfl, a, xs, rfl, .inl hS, _, _, rfl, _, _, rfl, _, rfl, ?_⟩
    have key : ∀ v : Int, 0 < v → v ≤ m → v ≤ 1000 → RgOk 0 v ∧ ∀ p, H p = none → Q (.ref p) (upd H p (.lst (rgV 0 v))) := fun v v0 v1 v2 => ⟨.of_le (by omega) (by omega) (by omega) (by omega), fun p hp => by
      refine q v.toNat p _ (by omega) (by omega) (same_upd hp) hp ?_
      rw [upd_same]
      unfold rgV
      rw [Int.sub_zero]
      refine congrArg (fun l => some (HO.lst l)) (List.map_congr_left fun i _ => ?_)
      rw [Int.zero_add]⟩
    refine key _ ?_ ?_ ?_
    all_goals (repeat' split) <;> omega
end
end Hw

set_option Elab.async false
set_option linter.all false
set_option maxRecDepth 100000
namespace Hw
open PySem L2 PyProof.Rows
/-! texts as lists of codes -/
def SL (l : List Nat) : Str := ⟨l.toArray⟩
theorem SL_cps (l : List Nat) : (SL l).cps.toList = l := rfl
theorem SL_of (z : Str) : SL z.cps.toList = z := by obtain ⟨a⟩ := z; rfl
theorem str_ext {x y : Str} (h : x.cps.toList = y.cps.toList) : x = y := by rw [← SL_of x, ← SL_of y, h]
theorem SL_len (l : List Nat) : (SL l).length = l.length := by show l.toArray.size = l.length; simp
theorem len_cps (z : Str) : z.length = z.cps.toList.length := by obtain ⟨a⟩ := z; simp [Str.length]
theorem app_cps (x y : Str) : (x ++ y).cps.toList = x.cps.toList ++ y.cps.toList := by
  show (x.cps ++ y.cps).toList = _
  simp
theorem app_len (x y : Str) : (x ++ y).length = x.length + y.length := by rw [len_cps, len_cps, len_cps, app_cps, List.length_append]
theorem sjoin_cps0 : ∀ (cs : List Str), (Str.join (Str.ofString "") cs).cps.toList = cs.flatMap fun z => z.cps.toList
  | [] => rfl
  | [x] => by simp [Str.join]
  | x :: y :: r => by
    have ih := sjoin_cps0 (y :: r)
    have e : Str.join (Str.ofString "") (x :: y :: r) = x ++ Str.ofString "" ++ Str.join (Str.ofString "") (y :: r) := rfl
    rw [e, app_cps, app_cps, ih]
    show x.cps.toList ++ [] ++ _ = _
    rw [List.append_nil]; rfl
theorem join_cps0 (cs : List Str) : (Txt.join (Str.ofString "") cs).cps.toList = cs.flatMap fun z => z.cps.toList := by rw [TL.join_eq]; exact sjoin_cps0 cs
/-- a name: one to eight letters -/
def Nm (z : Str) : Prop := 1 ≤ z.length ∧ z.length ≤ 8 ∧ ∀ c ∈ z.cps.toList, 97 ≤ c ∧ c ≤ 122
instance (z : Str) : Decidable (Nm z) := by unfold Nm; exact inferInstance
/-- the words that are tried in the place of a word that is known -/
def cand (w : Str) : Nat → Str
  | 0 => w
  | k + 1 => SL ([97 + k / 26, 97 + k % 26] ++ w.cps.toList.drop 2)
theorem cand_drop (w : Str) : ∀ k, (cand w k).cps.toList.drop 2 = w.cps.toList.drop 2
  | 0 => rfl
  | k + 1 => by
    show (SL ([97 + k / 26, 97 + k % 26] ++ w.cps.toList.drop 2)).cps.toList.drop 2 = _
    rw [SL_cps]; rfl
theorem cand_nm {w : Str} (h : Nm w) {k : Nat} (hk : k ≤ 676) : Nm (cand w k) := by
  cases k with
  | zero => exact h
  | succ k =>
    obtain ⟨h1, h2, h3⟩ := h
    have e : (cand w (k + 1)).cps.toList = [97 + k / 26, 97 + k % 26] ++ w.cps.toList.drop 2 := SL_cps _
    have l : (cand w (k + 1)).length = 2 + (w.length - 2) := by
      rw [len_cps, e, List.length_append, List.length_drop, ← len_cps]; rfl
    refine ⟨by omega, by omega, fun c hc => ?_⟩
    rw [e] at hc
    rcases List.mem_append.mp hc with hc | hc
    · simp only [List.mem_cons, List.not_mem_nil, or_false] at hc
      rcases hc with rfl | rfl <;> omega
    · exact h3 c (List.mem_of_mem_drop hc)
theorem cand_inj {w : Str} {i j : Nat} (h : cand w (i + 1) = cand w (j + 1)) : i = j := by
  have e : ([97 + i / 26, 97 + i % 26] ++ w.cps.toList.drop 2) = ([97 + j / 26, 97 + j % 26] ++ w.cps.toList.drop 2) := by
    have z := congrArg (fun s : Str => s.cps.toList) h
    exact z
  injection e with e1 e2
  injection e2 with e2 e3
  omega
theorem sub_len {α : Type} [DecidableEq α] : ∀ {l m : List α}, l.Nodup → (∀ x ∈ l, x ∈ m) → l.length ≤ m.length
  | [], _, _, _ => Nat.zero_le _
  | a :: l, m, hn, hs => by
    obtain ⟨ha, hl⟩ := List.nodup_cons.mp hn
    have hm : a ∈ m := hs a List.mem_cons_self
    have ih := sub_len (m := m.erase a) hl fun x hx => by
      refine (List.mem_erase_of_ne ?_).mpr (hs x (List.mem_cons_of_mem _ hx))
      rintro rfl; exact ha hx
    have e := List.length_erase_of_mem hm
    have p : 0 < m.length := List.length_pos_of_mem hm
    rw [List.length_cons]; omega
theorem cand_few {w : Str} {ks : List Str} {k : Nat} (h : ∀ j, j < k → cand w j ∈ ks) : k ≤ ks.length + 1 := by
  cases k with
  | zero => omega
  | succ k =>
    have z := sub_len (l := (List.range k).map fun j => cand w (j + 1)) (m := ks) ?_ ?_
    · rw [List.length_map, List.length_range] at z; omega
    · rw [List.Nodup, List.pairwise_map]
      exact List.Pairwise.imp (fun {i j} hij e => hij (cand_inj e)) (List.nodup_range (n := k))
    · intro x hx
      obtain ⟨j, hj, rfl⟩ := List.mem_map.mp hx
      exact h (j + 1) (by have := List.mem_range.mp hj; omega)
def alpha : Str := Str.ofString "abcdefghijklmnopqrstuvwxyz"
theorem alpha_at : ∀ k, k < 26 → alpha.cps.toList[k]? = some (97 + k) := by decide +kernel
theorem alpha_mem : ∀ c ∈ alpha.cps.toList, 97 ≤ c ∧ c ≤ 122 := by decide +kernel
theorem alpha_len : alpha.length = 26 := by decide +kernel
theorem ones_join (cs : List Nat) : (Txt.join (Str.ofString "") (cs.map fun c => SL [c])).cps.toList = cs := by
  rw [join_cps0, List.flatMap_map]
  induction cs with
  | nil => rfl
  | cons c cs ih =>
    rw [List.flatMap_cons, ih]; rfl
end Hw

set_option Elab.async false
set_option linter.all false
set_option maxRecDepth 100000
set_option maxHeartbeats 4000000
namespace Hw
open PySem L2 PyProof.Rows
abbrev sNames : Stmt := topS 26
theorem valV_seen {ns : List Str} (w : Str) : valV (ns.map fun z => ((Sum.inr z : Key), V.bl true)) (Sum.inr w) = if w ∈ ns then some (V.bl true) else none := by
  induction ns with
  | nil => exact valV_nil
  | cons z ns ih =>
    rw [List.map_cons]
    by_cases h : z = w
    · subst h
      rw [valV_pos rfl, if_pos List.mem_cons_self]
    · rw [valV_neg (fun e => h (Sum.inr.inj e)), ih]
      by_cases hm : w ∈ ns
      · rw [if_pos hm, if_pos (List.mem_cons_of_mem _ hm)]
      · rw [if_neg hm, if_neg (fun e => by rcases List.mem_cons.mp e with rfl | e; exact h rfl; exact hm e)]
theorem rs_while {c : TT} {tb u : TS} {D : Ends} {σ : L2.St} {H : Hp} (Pv : L2.St → Hp → Prop) (μ : L2.St → Hp → Nat) (h0 : Pv σ H)
    (hs : ∀ σ H, Pv σ H → ∃ b : Bool, (∀ Q : Bool → Hp → Prop, Q b H → c σ H Q) ∧ (b = true → tb { D with nx := fun σ' H' => Pv σ' H' ∧ μ σ' H' < μ σ H, ct := fun σ' H' => Pv σ' H' ∧ μ σ' H' < μ σ H, bk := u D } σ H) ∧ (b = false → u D σ H)) :
    tSeq (tWhile c tb) u D σ H := by
  refine ⟨fun m σ H => m = μ σ H ∧ Pv σ H, ⟨_, rfl, h0⟩, ?_⟩
  rintro m σ H ⟨rfl, p⟩
  obtain ⟨b, hc, h1, h2⟩ := hs σ H p
  refine hc _ ?_
  cases b with
  | true => exact ⟨_, fun σ' H' ⟨p', l⟩ => ⟨_, l, rfl, p'⟩, h1 rfl⟩
  | false => exact h2 rfl
def at7 (σ : L2.St) : Nat := match σ[7]? with
  | some (some (V.int k)) => (400 - k).toNat
  | _ => 0
theorem cut2 (w : Str) : cutS w (some 2) none = SL (w.cps.toList.drop 2) := by
  unfold cutS SL
  rw [show HT.sIx w.length 0 (some 2) = min 2 w.length from HT.sIx_nat w.length 0 2, HT.sIx_none]
  refine congrArg (fun l : List Nat => (⟨l.toArray⟩ : Str)) ?_
  rw [len_cps]
  have e : w.cps.toList.drop (min 2 w.cps.toList.length) = w.cps.toList.drop 2 := by
    by_cases h : 2 ≤ w.cps.toList.length
    · rw [Nat.min_eq_left h]
    · rw [Nat.min_eq_right (by omega), List.drop_of_length_le (Nat.le_refl _), List.drop_of_length_le (by omega)]
  rw [e]
  refine List.take_of_length_le ?_
  rw [List.length_drop]; omega
theorem cand_succ (w : Str) (k : Nat) : (SL [97 + k / 26] ++ SL [97 + k % 26]) ++ cutS (cand w k) (some 2) none = cand w (k + 1) := by
  refine str_ext ?_
  rw [app_cps, app_cps, cut2, cand_drop]; rfl
def wordsD : List V := [.str "places", .str "tie", .str "come", .str "die", .str "ring", .str "all", .str "least"]
theorem words_nm : ∀ v ∈ wordsD, ∃ z, v = V.str z ∧ Nm z := by
  intro v hv
  simp only [wordsD, List.mem_cons, List.not_mem_nil, or_false] at hv
  rcases hv with rfl | rfl | rfl | rfl | rfl | rfl | rfl <;> exact ⟨_, rfl, by decide +kernel⟩
def fewD : List V := [.int 0, .int 1, .int 1, .int 2, .int 7]
theorem few_int : ∀ v ∈ fewD, ∃ x : Nat, v = V.int (x : Int) ∧ x ≤ 7 := by
  intro v hv
  simp only [fewD, List.mem_cons, List.not_mem_nil, or_false] at hv
  rcases hv with rfl | rfl | rfl | rfl | rfl
  · exact ⟨0, rfl, by decide⟩
  · exact ⟨1, rfl, by decide⟩
  · exact ⟨1, rfl, by decide⟩
  · exact ⟨2, rfl, by decide⟩
  · exact ⟨7, rfl, by decide⟩
/-- one of the signs of a text, or of the items of a list -/
def spOfS : Sp := fun vs H Q _ => ∃ (a : Addr) (z : Str) (N : Nat), vs = [.ref a, .str z] ∧ Pot H a N ∧ N < 1000000000 ∧ 0 < z.length ∧ z.length < 1000 ∧ ∀ c H', c ∈ z.cps.toList → SameX a H H' → Pot H' a (N + 1) → Q (.str (SL [c])) H'
def spOf2 (K : PySem.W.Frag) : Sp := fun vs H Q E => spOf K vs H Q E ∨ spOfS vs H Q E
/-- many unlike names -/
def spNames : Sp := fun vs H Q _ => ∃ (a : Addr) (m N : Nat), vs = [.ref a, .int m] ∧ Pot H a N ∧ N + 11 * m < 900000000 ∧ m ≤ 300 ∧
  ∀ p (ns : List Str) H', ns.length = m → ns.Nodup → (∀ z ∈ ns, Nm z) → SameX a H H' → H p = none → H' p = some (.lst (ns.map V.str)) → Pot H' a (N + 11 * m) → Q (.ref p) H'
section
variable {P : Program} {w : World} {K : PySem.W.Frag} {mg : Str → Option Value} {base : Heap}
theorem ok_of2 {f fT : Addr} {fd fdT : FuncData} {k : Nat} (F : Fun K "_law_of" "_law_of" sOf f fd) (B : Blt mg) (GT : FnOk P w K mg base CX0 k fT fdT ["pot", "upto"] spTake) (gT : mg "_law_take" = some (.ref fT)) (kT : PySem.W.keepIn K (.ref fT) = true) (bT : Binds K fdT ["pot", "upto"] []) :
    FnOk P w K mg base CX0 (k + 1) f fd ["pot", "some"] (spOf2 K) := by
  refine F.ok scOf (fun vs H Q E h => ?_) (fun cdv A outer s H vs Q E hr h => ?_)
  · rcases h with h | h
    · obtain ⟨a, b, xs, N, rfl, _⟩ := h
      rfl
    · obtain ⟨a, z, N, rfl, _⟩ := h
      rfl
  · refine ⟨_, pss_one (ps_ret (pe_ix (ix_list.or ix_str) (pv 1) (pe_call GT hr (by rfl) gT kT bT .nil pass0 (pa_cons (pv 0) (pa_cons (pe_callB (call_len_seq.or call_len_str) (by rfl) B.len PySem.boot_len (pa_cons (pv 1) pa_nil)) pa_nil))) (fun _ _ => rfl))), ?_⟩
    rcases h with ⟨a, b, xs, N, rfl, hP, hN, hS, hab, h0, h1, q⟩ | ⟨a, z, N, rfl, hP, hN, h0, h1, q⟩
    · refine ⟨.ref b, rfl, .ref a, rfl, .ref b, rfl, .inl ⟨b, xs, rfl, .inl hS, a, (xs.length : Int), N, rfl, hP, hN, by omega, by omega, fun r H' r0 r1 sx hP' => ?_⟩⟩
      have hj : r.toNat < xs.length := by omega
      have hS' : SqL K H' b xs := by
        rcases hS with (h | ⟨o, h⟩) | h
        · exact .inl (.inl (sx _ _ (Ne.symm hab) h))
        · exact .inl (.inr ⟨o, sx _ _ (Ne.symm hab) h⟩)
        · exact .inr h
      refine .inl ⟨b, xs, r, xs[r.toNat], rfl, rfl, hS', ?_, q r.toNat _ H' (List.getElem?_eq_getElem hj) sx hP'⟩
      exact at_of (j := r.toNat) (by omega) (List.getElem?_eq_getElem hj)
    · refine ⟨.str z, rfl, .ref a, rfl, .str z, rfl, .inr ⟨z, rfl, Nat.le_of_lt (small1000 (by omega)), a, (z.length : Int), N, rfl, hP, hN, by omega, by omega, fun r H' r0 r1 sx hP' => ?_⟩⟩
      have hj : r.toNat < z.cps.toList.length := by rw [← len_cps]; omega
      refine .inr ⟨z, r, z.cps.toList[r.toNat], rfl, rfl, Nat.le_of_lt (small1000 (by omega)), ?_, q _ H' (List.getElem_mem hj) sx hP'⟩
      have hh := atI_nat (List.getElem?_eq_getElem hj)
      rw [Int.toNat_of_nonneg r0] at hh
      exact hh
theorem lc_range {g : TG} {tt : TT} {te : TE} {vs : List Nat} {σ : L2.St} {H1 : Hp} {D : Addr} {Qd : Hp → Prop} (n : Nat) (Pv : Nat → Hp → Prop) (h0 : Pv 0 (upd H1 D (.lst [])))
    (hs : ∀ i H, i < n → Pv i H → g (.int (0 + (i : Int))) (wipe σ vs) H fun σ2 H2 => wipe σ2 vs = wipe σ vs ∧ tt σ2 H2 fun b H3 => if b = true then te σ2 H3 fun y H4 => ∃ acc, H4 D = some (.lst acc) ∧ acc.length < sizeLine ∧ Pv (i + 1) (upd H4 D (.lst (acc ++ [y]))) else Pv (i + 1) H3)
    (hd : ∀ H, Pv n H → Qd H) : ∃ W : Nat → Nat → Hp → Prop, (∃ m, W 0 m (upd H1 D (.lst []))) ∧ ∀ i m H, W i m H →
      ((Itr 0 n).stop i H ∧ Qd H) ∨ ((Itr 0 n).go i H ∧ ∃ Nx : Hp → Prop, (∀ H', Nx H' → ∃ m', m' < m ∧ W (i + 1) m' H') ∧ ∀ x H', (Itr 0 n).yld i H x H' → g x (wipe σ vs) H' fun σ2 H2 => wipe σ2 vs = wipe σ vs ∧ tt σ2 H2 fun b H3 =>
        if b = true then te σ2 H3 fun y H4 => ∃ acc, H4 D = some (.lst acc) ∧ acc.length < sizeLine ∧ Nx (upd H4 D (.lst (acc ++ [y]))) else Nx H3) :=
  lc_it (walk_range (lo := 0) (n := n)) Pv h0 (fun _ _ _ _ => trivial) (fun i x H H' hi hp ⟨e1, e2⟩ => by subst e1 e2; exact hs i _ hi hp) hd
def nN : List Str := ["pot", "many", "signs", "found", "known", "lap", "word", "at", "sign"]
theorem scNames : FnScope ["pot", "many", "signs", "found", "known", "lap", "word", "at", "sign"] ["pot", "many"] (defScope sNames) := ⟨rfl, rfl, rfl, by decide +kernel, rfl, by decide +kernel, by decide +kernel⟩
theorem ok_names {f fT fO : Addr} {fd fdT fdO : FuncData} {k : Nat} (F : Fun K "_law_names" "_law_names" sNames f fd) (B : Blt mg) (GT : FnOk P w K mg base CX0 k fT fdT ["pot", "upto"] spTake) (gT : mg "_law_take" = some (.ref fT)) (kT : PySem.W.keepIn K (.ref fT) = true) (bT : Binds K fdT ["pot", "upto"] [])
    (GO : FnOk P w K mg base CX0 k fO fdO ["pot", "some"] (spOf2 K)) (gO : mg "_law_of" = some (.ref fO)) (kO : PySem.W.keepIn K (.ref fO) = true) (bO : Binds K fdO ["pot", "some"] []) :
    FnOk P w K mg base CX0 (k + 1) f fd ["pot", "many"] spNames := by
  refine F.ok scNames (fun vs H Q E h => ?_) (fun cdv A outer s H vs Q E hr h => ?_)
  · obtain ⟨a, m, N, rfl, _⟩ := h
    rfl
  · obtain ⟨a, m, N, rfl, hP, hN, hm, q⟩ := h
    have hu := hu_of hr
    refine ⟨_, pss_cons (ps_asg (pe_tup (pa_cons pe_str (pa_cons (pe_lst pa_nil) (pa_cons pe_dnewK pa_nil)))) (pg_tup rfl (pgs_cons (pg_name (i := 2) scNames.nd rfl (.inr rfl)) (pgs_cons (pg_name (i := 3) scNames.nd rfl (.inl rfl)) (pgs_cons (pg_name (i := 4) scNames.nd rfl (.inl rfl)) pgs_nil)))))
      (pss_cons (ps_for PassesOwn.never rfl (pi_range1 (by rfl) B.range (pa_cons (pv 1) pa_nil)) (pg_name (i := 5) scNames.nd rfl (.inl rfl))
        (pss_cons (ps_set (i := 6) scNames.nd rfl (.inl rfl) (pe_join pe_str (pe_lc (own := [("sign", 8)]) (g := gName 8) (tt := tYes) rfl scNames.nd
            (pi_range1 (by rfl) B.range (pa_cons (pe_op op_add pe_int (pe_call GO hr (by rfl) gO kO bO .nil pass0 (pa_cons (pv 0) (pa_cons (pe_lst (pa_cons pe_int (pa_cons pe_int (pa_cons pe_int (pa_cons pe_int (pa_cons pe_int pa_nil)))))) pa_nil)))) pa_nil))
            (blkOk_by (N := ["pot", "many", "signs", "found", "known", "lap", "word", "at", "sign"]) (sc := defScope sNames) (by decide +kernel)) (fun _ _ _ _ _ => pg_name (i := 8) scNames.nd rfl (Or.inl rfl)) (fun _ _ _ _ _ => pts_nil)
            (fun _ _ _ _ _ => pe_call GO hr (by rfl) gO kO bO .nil pass0 (pa_cons (pv 0) (pa_cons (pv 2) pa_nil))))))
        (Evl.pss_cut (ps_if (pt_cmpR op_eq (pe_call GT hr (by rfl) gT kT bT .nil pass0 (pa_cons (pv 0) (pa_cons pe_int pa_nil))) pe_int (nomark _))
            (pss_one (ps_set (i := 6) scNames.nd rfl (.inl rfl) (pe_call GO hr (by rfl) gO kO bO .nil pass0 (pa_cons (pv 0) (pa_cons (pe_lst (pa_cons pe_str (pa_cons pe_str (pa_cons pe_str (pa_cons pe_str (pa_cons pe_str (pa_cons pe_str (pa_cons pe_str pa_nil)))))))) pa_nil))))) pss_nil)
        (pss_cons (ps_set (i := 7) scNames.nd rfl (.inl rfl) pe_int)
        (pss_cons (ps_while PassesOwn.never (pt_cmp (pc_din hu (pv 6) (pv 4)))
            (pss_one (ps_par (i := 6) (j := 7) rfl scNames.nd rfl rfl (by decide) rfl rfl (pa_cons (pe_op op_add_str (pe_op op_add_str (pe_ix ix_str (pv 2) (pe_op op_fdiv (pv 7) pe_int) (fun _ _ => rfl)) (pe_ix ix_str (pv 2) (pe_op op_mod (pv 7) pe_int) (fun _ _ => rfl))) (pe_slice sl_str (pv 6) (po_some pe_int) po_none))
              (pa_cons (pe_op op_add (pv 7) pe_int) pa_nil)) rfl)))
        (pss_cons (ps_dput hu (pv 4) (pv 6) pe_bl rfl)
        (pss_one (ps_expr (pe_bm PySem.F.plainAttrs_list PySem.F.slot_list_append PySem.F.type_list_append mt_append (pv 3) (pa_cons (pv 6) pa_nil))))))))))
      (pss_one (ps_ret (pv 3)))), ?_⟩
    have hPn := hP.some
    refine ⟨Nat.zero_le _, fun fo nfo d nd => ⟨by show 3 ≤ sizeLine; decide, fun tp ntp => ?_⟩⟩
    have nfd : fo ≠ d := ne_of_none upd_same nd
    have e1 : (upd (upd (upd H fo (.lst [])) d (.dK [])) tp (.tup [.str (Str.ofString "abcdefghijklmnopqrstuvwxyz"), .ref fo, .ref d])) fo = some (.lst []) := by
      rw [upd_ne (ne_of_none (by rw [upd_ne nfd, upd_same]) ntp), upd_ne nfd, upd_same]
    have e2 : (upd (upd (upd H fo (.lst [])) d (.dK [])) tp (.tup [.str (Str.ofString "abcdefghijklmnopqrstuvwxyz"), .ref fo, .ref d])) d = some (.dK []) := by
      rw [upd_ne (ne_of_none upd_same ntp), upd_same]
    have s1 : Same H (upd (upd (upd H fo (.lst [])) d (.dK [])) tp (.tup [.str (Str.ofString "abcdefghijklmnopqrstuvwxyz"), .ref fo, .ref d])) := ((same_upd nfo).trans (same_upd nd)).trans (same_upd ntp)
    refine ⟨tp, [.str alpha, .ref fo, .ref d], rfl, sqt_of upd_same, rfl, _, [.ref fo, .ref d], rfl, _, [.ref d], rfl, _, [], rfl, rfl, ?_⟩
    generalize (upd (upd (upd H fo (.lst [])) d (.dK [])) tp (.tup [.str (Str.ofString "abcdefghijklmnopqrstuvwxyz"), .ref fo, .ref d])) = H1 at e1 e2 s1
    have nd0 : H d = none := (same_upd nfo).free nd
    -- the laps
    refine ⟨.int m, rfl, m, rfl, by omega, by omega, for_range (n := (m : Int).toNat) (fun i σ' H' => ∃ o5 o6 o7 o8 ns, σ' = [some (.ref a), some (.int m), some (.str alpha), some (.ref fo), some (.ref d), o5, o6, o7, o8] ∧ SameX a H H' ∧ Pot H' a (N + 11 * i) ∧
      H' fo = some (.lst (ns.map V.str)) ∧ H' d = some (.dK (ns.map fun z => ((Sum.inr z : Key), V.bl true))) ∧ ns.length = i ∧ ns.Nodup ∧ ∀ z ∈ ns, Nm z)
      ⟨_, _, _, _, [], rfl, .of s1, hP.same s1, e1, e2, rfl, List.nodup_nil, fun _ z => nomatch z⟩ ?_ ?_⟩
    · rintro i σ1 H2 hi ⟨o5, o6, o7, o8, ns, rfl, sx, hp, hfo, hd, hl, hnd, hnm⟩
      refine r_gname ?_
      have hdn : d ≠ fo := Ne.symm nfd
      have hda : d ≠ a := fun e => hPn (e ▸ nd0)
      have hfa : fo ≠ a := fun e => hPn (e ▸ nfo)
      have hi' : i < m := by omega
      -- ''.join([..])
      refine rs_set ⟨⟨_, rfl⟩, .ref a, rfl, by show 5 ≤ sizeLine; decide, fun l nl => .inl ⟨a, l, fewD, N + 11 * i, rfl, hp.same (same_upd nl), by omega, sql_of upd_same, fun e => hp.some (e ▸ nl), by decide, by decide, fun ix v H3 hv s3 hp3 => ?_⟩⟩
      obtain ⟨x, rfl, hx⟩ := few_int v (List.mem_of_getElem? hv)
      have sx3 : SameX a H2 H3 := (SameX.of (same_upd nl)).trans s3
      refine ⟨_, _, rfl, rfl, _, rfl, by omega, by omega, fun D hD => ?_⟩
      refine Hw.lc_range (1 + (x : Int)).toNat (fun j H' => ∃ cs : List Nat, cs.length = j ∧ (∀ c ∈ cs, 97 ≤ c ∧ c ≤ 122) ∧ H' D = some (.lst (cs.map fun c => V.str (SL [c]))) ∧ SameX a H3 H' ∧ Pot H' a (N + 11 * i + 1 + j))
        ⟨[], rfl, fun _ z => (by cases z), upd_same, .of (same_upd hD), hp3.same (same_upd hD)⟩ ?_ ?_
      · rintro j H4 hj ⟨cs, rfl, hcs, eD, sx4, hp4⟩
        refine ⟨rfl, r_yes ?_⟩
        refine ⟨.ref a, rfl, .str alpha, rfl, .inr ⟨a, alpha, _, rfl, hp4, by omega, by decide +kernel, by decide +kernel, fun c H5 hc s5 hp5 => ?_⟩⟩
        have hDa : D ≠ a := fun e => hp3.some (e ▸ hD)
        refine ⟨_, s5 _ _ hDa eD, small1000 (by rw [List.length_map]; omega), cs ++ [c], by rw [List.length_append]; rfl, fun z hz => ?_, ?_, fun b o hb e => ?_, ?_⟩
        · rcases List.mem_append.mp hz with hz | hz
          · exact hcs z hz
          · rw [List.mem_singleton.mp hz]; exact alpha_mem c hc
        · rw [upd_same, List.map_append]; rfl
        · rw [upd_ne (ne_of_none e hD)]; exact s5 _ _ hb (sx4 _ _ hb e)
        · obtain ⟨xx, yy, zz, e, hh⟩ := hp5.ex
          exact ⟨xx, yy, zz, by rw [upd_ne (Ne.symm hDa)]; exact e, hh⟩
      rintro H4 ⟨cs, hcl, hcs, eD, sx4, hp4⟩
      have hw0 : Nm (Txt.join (Str.ofString "") (cs.map fun c => SL [c])) := by
        have e := ones_join cs
        have l : (Txt.join (Str.ofString "") (cs.map fun c => SL [c])).length = cs.length := by rw [len_cps, e]
        exact ⟨by omega, by omega, by rw [e]; exact hcs⟩
      refine ⟨Str.ofString "", D, cs.map fun c => SL [c], rfl, rfl, .inl (sql_of (by rw [eD, List.map_map]; rfl)), ?_, ?_⟩
      · have e : ((cs.map fun c => SL [c]).map (·.length)).sum = cs.length := by
          rw [List.map_map]
          clear hcl hcs eD hw0
          induction cs with
          | nil => rfl
          | cons c cs ih => rw [List.map_cons, List.sum_cons, ih, List.length_cons]; show 1 + cs.length = cs.length + 1; omega
        rw [e, List.length_map]
        show cs.length + cs.length * 0 ≤ 16777216
        omega
      generalize (Txt.join (Str.ofString "") (cs.map fun c => SL [c])) = w0 at hw0
      have sx24 : SameX a H2 H4 := sx3.trans sx4
      -- if _law_take(pot, 17) == 0
      refine ⟨fun σ' H' => ∃ w o7 o8, Nm w ∧ σ' = [some (.ref a), some (.int m), some (.str alpha), some (.ref fo), some (.ref d), some (.int (0 + (i : Int))), some (.str w), o7, o8] ∧ SameX a H2 H' ∧ Pot H' a (N + 11 * (i + 1)), ?_, ?_⟩
      · refine ⟨.ref a, rfl, a, 17, _, rfl, hp4, by omega, by decide, by decide, fun r H5 r0 r1 s5 hp5 => ⟨rfl, _, rfl, ite2 (fun _ => ?_) (fun _ => ?_)⟩⟩
        · refine ⟨.ref a, rfl, by show 7 ≤ sizeLine; decide, fun l2 nl2 => .inl ⟨a, l2, wordsD, _, rfl, hp5.same (same_upd nl2), by omega, sql_of upd_same, fun e => hp5.some (e ▸ nl2), by decide, by decide, fun ix2 v2 H6 hv2 s6 hp6 => ?_⟩⟩
          obtain ⟨z, rfl, hz⟩ := words_nm v2 (List.mem_of_getElem? hv2)
          exact ⟨z, _, _, hz, rfl, (sx24.trans s5).trans ((SameX.of (same_upd nl2)).trans s6), hp6.mono (by omega)⟩
        · exact ⟨w0, _, _, hw0, rfl, sx24.trans s5, hp5.mono (by omega)⟩
      rintro σ5 H5 ⟨w, o7', o8', hw, rfl, sx5, hp5⟩
      have hfo5 := sx5 _ _ hfa hfo
      have hd5 := sx5 _ _ hda hd
      -- at = 0; while word in known
      refine rs_set ?_
      refine rs_while (fun σ' H' => H' = H5 ∧ ∃ kk : Nat, σ' = [some (.ref a), some (.int m), some (.str alpha), some (.ref fo), some (.ref d), some (.int (0 + (i : Int))), some (.str (cand w kk)), some (.int kk), o8'] ∧ ∀ j, j < kk → cand w j ∈ ns)
        (fun σ' _ => at7 σ') ⟨rfl, 0, rfl, fun _ z => absurd z (Nat.not_lt_zero _)⟩ ?_
      rintro σ6 H6 ⟨rfl, kk, rfl, hkk⟩
      have hfew := cand_few hkk
      refine ⟨(valV (ns.map fun z => ((Sum.inr z : Key), V.bl true)) (Sum.inr (cand w kk))).isSome, fun Q1 q1 => ⟨_, rfl, _, rfl, d, _, rfl, DGet.k (k := Sum.inr (cand w kk)) hd5, _, rfl, q1⟩, fun hin => ?_, fun hout => ?_⟩
      · have hmem : cand w kk ∈ ns := by
          by_cases h : cand w kk ∈ ns
          · exact h
          · rw [valV_seen, if_neg h] at hin; cases hin
        have a1 := alpha_at (kk / 26) (by omega)
        have a2 := alpha_at (kk % 26) (by omega)
        have lw := (cand_nm hw (k := kk) (by omega)).2.1
        refine ⟨_, rfl, _, rfl, _, _, rfl, rfl, ⟨by decide, by decide⟩, alpha, _, 97 + kk / 26, rfl, rfl, by decide +kernel, ?_, _, rfl, _, rfl, _, _, rfl, rfl, (by show (0 : Int) < 26; decide), alpha, _, 97 + kk % 26, rfl, rfl, by decide +kernel, ?_, _, _, rfl, rfl, (by show 1 + 1 ≤ sizeLine; decide), ?_⟩
        · have e : ((kk : Int) / 26) = ((kk / 26 : Nat) : Int) := by omega
          rw [e]; exact atI_nat a1
        · have e : ((kk : Int) % 26) = ((kk % 26 : Nat) : Int) := by omega
          rw [e]; exact atI_nat a2
        refine ⟨_, rfl, 2, rfl, cand w kk, rfl, Nat.le_of_lt (small1000 (by omega)), _, _, rfl, rfl, ?_, ?_⟩
        · rw [app_len, cut2, SL_len, List.length_drop, ← len_cps]
          refine Nat.le_of_lt (small1000 ?_)
          show 1 + 1 + _ ≤ 1000
          omega
        · refine ⟨_, rfl, _, _, rfl, rfl, _, _, rfl, ⟨rfl, kk + 1, ?_, ?_⟩, ?_⟩
          · rw [← cand_succ]; rfl
          · intro j hj
            by_cases e : j = kk
            · rw [e]; exact hmem
            · exact hkk j (by omega)
          · show (400 - ((kk : Int) + 1)).toNat < (400 - (kk : Int)).toNat
            omega
      · have hno : cand w kk ∉ ns := fun h => by
          rw [valV_seen, if_pos h] at hout; cases hout
        have hlen : (ns.map fun z => ((Sum.inr z : Key), V.bl true)).length < sizeLine := small1000 (by rw [List.length_map]; omega)
        -- known[word] = True; found.append(word)
        refine ⟨.ref d, rfl, _, rfl, d, _, rfl, DPut.k (k := Sum.inr (cand w kk)) hd5 hlen, ?_⟩
        have hv : valV (ns.map fun z => ((Sum.inr z : Key), V.bl true)) (Sum.inr (cand w kk)) = none := by rw [valV_seen, if_neg hno]
        have efo : (upd H6 d (.dK (putK (ns.map fun z => ((Sum.inr z : Key), V.bl true)) (Sum.inr (cand w kk)) (V.bl true)))) fo = some (.lst (ns.map V.str)) := by rw [upd_ne (Ne.symm hdn)]; exact hfo5
        refine ⟨.ref fo, rfl, .inl ⟨rfl, _, sql_of efo⟩, _, rfl, fo, _, _, rfl, rfl, efo, small1000 (by rw [List.length_map]; omega), ?_⟩
        refine ⟨_, _, _, _, ns ++ [cand w kk], rfl, fun b o hb e => ?_, ?_, ?_, ?_, ?_, ?_, ?_⟩
        · have n1 : b ≠ fo := ne_of_none e nfo
          have n2 : b ≠ d := ne_of_none e nd0
          rw [upd_ne n1, upd_ne n2]
          exact sx5 _ _ hb (sx _ _ hb e)
        · obtain ⟨xx, yy, zz, e, hh⟩ := hp5.ex
          exact ⟨xx, yy, zz, by rw [upd_ne (Ne.symm hfa), upd_ne (Ne.symm hda)]; exact e, hh⟩
        · rw [upd_same, List.map_append]; rfl
        · rw [upd_ne hdn, upd_same, putK_new _ hv, List.map_append]; rfl
        · rw [List.length_append, hl]; rfl
        · rw [List.nodup_append]
          exact ⟨hnd, by simp, fun x hx y hy e => hno (by rw [List.mem_singleton.mp hy] at e; exact e ▸ hx)⟩
        · intro z hz
          rcases List.mem_append.mp hz with hz | hz
          · exact hnm z hz
          · rw [List.mem_singleton.mp hz]; exact cand_nm hw (by omega)
    · rintro σ1 H2 ⟨o5, o6, o7, o8, ns, rfl, sx, hp, hfo, hd, hl, hnd, hnm⟩
      have em : (m : Int).toNat = m := Int.toNat_natCast m
      rw [em] at hp hl
      exact ⟨_, rfl, q fo ns H2 hl hnd hnm sx nfo hfo hp⟩
end
end Hw

set_option Elab.async false
set_option linter.all false
set_option maxRecDepth 100000
set_option maxHeartbeats 4000000
namespace Hw
open PySem L2 PyProof.Rows
/-! a built-in class called with keywords -/
theorem callWith_tyK {M : Model} {A : Around} {E : Value → Shared → Prop} {s : Shared} {pos : Pos} {T : String} {first : List Value} {args : List (Bool × Sem Value)} {keywords : List (Option Str × Sem Value)} {Q : Value → Shared → Prop}
    (hp : args.any (·.1) = false) (hk : keywords.any (·.1.isNone) = false) (h : wpAny M A (evalArgs (.type T) true args keywords) (fun a s1 => wpAny M A (call (.type T) (first ++ a.pos) a.kw) Q E s1) E s) :
    wpAny M A (callWith pos (.type T) first args keywords) Q E s := by
  unfold callWith
  refine wpAny_bind (wpAny_holding (wpAny_mono h (fun a s1 h1 => wpAny_bind (wpAny_standAt ?_)) fun _ _ z => z))
  simp only [hp, hk, Bool.or_false]
  refine wpAny_bind (wpAny_pure ?_)
  exact wpAny_bind (wpAny_mono h1 (fun r s2 hr => wpAny_bind (wpAny_holding (wpAny_point (wpAny_pure hr)))) fun _ _ z => z)
/-! enumerate(list, start=k) -/
def IteK (K : PySem.W.Frag) (a : Addr) (k0 : Int) : It :=
  ⟨fun i H => ∃ (xs : List V) (x : V), SqL K H a xs ∧ xs[i]? = some x, fun i H v H' => ∃ T x, v = .ref T ∧ H T = none ∧ H' = upd H T (.tup [.int (k0 + (i : Nat)), x]) ∧ ∀ xs, SqL K H a xs → xs[i]? = some x, fun i H => ∃ xs : List V, SqL K H a xs ∧ xs.length = i⟩
theorem turn_enumK {P : Program} {w : World} {K : PySem.W.Frag} {elts : List Expr} {kk : Nat} {tpos : Pos} (k0 : Int) (a e it : Addr) :
    Turn P w K (.Tuple elts kk tpos) (IteK K a k0) [e, it] e (fun i h => (∃ old, IsEnum h e it (k0 + (i : Nat)) old) ∧ h.IsListIter it a i ∧ e ≠ it) where
  mem := by simp
  obj := fun i h st b hb => by
    obtain ⟨⟨old, he⟩, ⟨o, ho, hc, hd⟩, _⟩ := st
    rcases (show b = e ∨ b = it by simpa using hb) with z | z
    · subst z; exact ⟨_, he, fun v q => nomatch q⟩
    · subst z; exact ⟨o, ho, fun v q => by rw [hd] at q; cases q⟩
  keep := fun i h h' st k => by
    obtain ⟨⟨old, he⟩, hi, hne⟩ := st
    exact ⟨⟨old, k e (by simp) _ he⟩, hi.at fun o q => k it (by simp) o q, hne⟩
  item := by
    intro X hP hw hK hc i pins s σ H E I hf st hg
    subst hP hw hK
    obtain ⟨⟨old, he⟩, hit, hne⟩ := st
    obtain ⟨xs, x, hq, hx⟩ := hg
    obtain ⟨its, rv, p, hz⟩ := I.list hq
    obtain ⟨u, hu, ru⟩ := rv.get hx
    have hel : e < s.heap.objs.size := Heap.lt_size he
    have hil : it < s.heap.objs.size := by
      obtain ⟨_, q, _⟩ := hit
      exact Heap.lt_size q
    have hae : a ≠ e := fun z => by
      obtain ⟨o1, q1, q2, _⟩ := p.isList
      subst z
      rw [show s.heap.get? a = _ from he] at q1
      obtain rfl := Option.some.inj q1
      injection q2 with q2
      exact absurd q2 (by decide)
    have hai : a ≠ it := fun z => by
      obtain ⟨o1, q1, q2, _⟩ := p.isList
      obtain ⟨o2, q3, q4, _⟩ := hit
      subst z
      rw [q3] at q1
      obtain rfl := Option.some.inj q1
      rw [q4] at q2
      injection q2 with q2
      exact absurd q2 (by decide)
    have hlt : i < its.toArray.size := by
      have := (List.getElem?_eq_some_iff.mp hu).1
      simpa using this
    refine wpAny_pyNext_enum_itemC (Draws.list (A := X.A.in1) (I.ok.hd hc) it a hai its.toArray) he ⟨hit, p.isList⟩ hlt hne (by simp [Ne.symm hae, hne]) fun x' h' tk hx' ho hst' hT hsz hk => ⟨_, rfl, wpAny_letOwnedTupleGo_enum (s := { s with heap := h', toks := tk + 1 }) ho fun h2 he' sb => ?_⟩
    obtain ⟨hit', hl'⟩ := hst'
    obtain rfl : u = x' := by
      rw [show its.toArray[i]? = its[i]? by simp] at hx'
      rw [hu] at hx'
      exact Option.some.inj hx'
    have hT2 : h2.get? s.heap.objs.size = some { cls := .type "tuple", data := .seq #[.int (k0 + (i : Nat)) tk, u] } := (sb.2 _ (Nat.ne_of_gt hel)).trans hT
    have new : ObjOk X.prog X.w (upd H s.heap.objs.size (.tup [.int (k0 + (i : Nat)), x])) h2 s.heap.objs.size (.tup [.int (k0 + (i : Nat)), x]) :=
      ⟨by show 2 ≤ sizeLine; decide, [.int (k0 + (i : Nat)) tk, u], .cons ⟨_, rfl⟩ (.cons ru .nil), ⟨_, hT2, rfl, _, rfl⟩⟩
    have I1 : Inv X pins σ (upd H s.heap.objs.size (.tup [.int (k0 + (i : Nat)), x])) { s with heap := h2, toks := tk + 1 } :=
      I.turnedNew (ch := [e, it]) (fun b ob hb q => (sb.2 b (fun z => hb (by simp [z]))).trans (hk b ob (fun z => hb (by simp [z])) (fun z => hb (by simp [z])) q)) hf (Nat.le_refl _) new
    refine ⟨.ref s.heap.objs.size, _, I1, rfl, ⟨_, x, rfl, I.hok.fresh (Nat.le_refl _), rfl, fun ys hy => by rw [I.list_inj hy hq]; exact hx⟩, ⟨⟨u, ?_⟩, hit'.at fun o q => (sb.2 it (Ne.symm hne)).trans q, hne⟩, fun b hb => ?_⟩
    · have e1 : k0 + ((i + 1 : Nat) : Int) = k0 + (i : Nat) + 1 := by omega
      rw [e1]; exact he'
    · have hb' : b < s.heap.objs.size := by
        rcases (show b = e ∨ b = it by simpa using hb) with z | z
        · rw [z]; exact hel
        · rw [z]; exact hil
      rw [upd_ne (Nat.ne_of_lt hb')]
      exact (hf b hb).1
  done := by
    intro X hP hw hK hc i pins s σ H E I hf st hg
    subst hP hw hK
    obtain ⟨⟨old, he⟩, hit, hne⟩ := st
    obtain ⟨xs, hq, hx⟩ := hg
    obtain ⟨its, rv, p, hz⟩ := I.list hq
    obtain ⟨f0, f1, f2, f3, f4, f5⟩ := hf it (by simp)
    have hl := rv.length
    have hai : a ≠ it := fun z => by
      obtain ⟨o1, q1, q2, _⟩ := p.isList
      obtain ⟨o2, q3, q4, _⟩ := hit
      subst z
      rw [q3] at q1
      obtain rfl := Option.some.inj q1
      rw [q4] at q2
      injection q2 with q2
      exact absurd q2 (by decide)
    have ei : its.toArray.size = i := by simp; omega
    refine wpAny_pyNext_enum_endD (Draws.list (A := X.A.in1) (I.ok.hd hc) it a hai its.toArray) he ⟨by rw [ei]; exact hit, p.isList⟩ fun h' eb => ⟨rfl, I.turned (t' := s.toks) (fun b o hb q => eb b o hb q) f0 f1 f3 f4 f5⟩
  self := fun A i s Q E st h => by
    obtain ⟨⟨_, he⟩, _⟩ := st
    exact wpAny_pyIter_enum he h
def iEnumK (K : PySem.W.Frag) (ta tk : TA) : TI := fun σ H R => ta σ H fun vs H1 => tk σ H1 fun zs H2 => ∃ a xs k, vs = [.ref a] ∧ zs = [.int k] ∧ -(2 ^ 62) ≤ k ∧ k < 2 ^ 62 ∧ SqL K H2 a xs ∧ R (IteK K a k) H2
theorem pi_enumK {X : Cx} {e ke : Expr} {ta tk : TA} {p pos tpos kp : Pos} {elts : List Expr} {kk : Nat} (hg : Gl X "enumerate") (hm : X.mg "enumerate" = none) (ha : PA X [e] ta) (hk : PK X [⟨some (Str.ofString "start"), ke, kp⟩] tk)
    (he : backTo pos (starEach [e] X.env) = (false, eval e X.env) :: backTo pos (starEach [] X.env) := by rfl) (hpl : (backTo pos (starEach [e] X.env)).any (·.1) = false := by rfl)
    (hall : (backToKw pos (keywordEach [⟨some (Str.ofString "start"), ke, kp⟩] X.env)).all (·.1.isSome) = true := by rfl) (hnone : (backToKw pos (keywordEach [⟨some (Str.ofString "start"), ke, kp⟩] X.env)).any (·.1.isNone) = false := by rfl)
    (hks : (backToKw pos (keywordEach [⟨some (Str.ofString "start"), ke, kp⟩] X.env)).filterMap (·.1) = [Str.ofString "start"] := by rfl) :
    PI X (.Tuple elts kk tpos) (.Call (.Name "enumerate" p) [e] [⟨some (Str.ofString "start"), ke, kp⟩] pos) (iEnumK X.K ta tk) := by
  refine ⟨fun pins s σ H R I h => ?_⟩
  refine wpAny_Call_Name_kw (ld_blt I hg hm boot_enumerate ?_ (by decide) (by decide))
  refine callWith_tyK hpl hnone ?_
  rw [he]
  refine evalArgs_kwB hall ?_
  rw [← he]
  refine thn (ha.run pos pins s σ H _ I h) fun us s1 ⟨vs, H1, I1, r1, q1⟩ => thn (hk.run pos pins s1 σ H1 _ I1 q1) fun ws s2 ⟨zs, H2, I2, r2, a, xs, k, ex, ez, k0, k1, hq, q⟩ => ?_
  subst ex ez
  rw [hks]
  obtain ⟨u, rfl, ru⟩ := r1.one
  obtain ⟨v, rfl, rv⟩ := r2.one
  obtain rfl : u = Value.ref a := ru
  obtain ⟨t, rfl⟩ := rv
  obtain ⟨its, rvs, p', hz⟩ := I2.list hq
  refine enum_begins_start (begins_list a its.toArray) p'.isList (by omega) (by omega) fun h' hen hit hsz hkp => ?_
  refine wpAny_pyIter_enum hen ?_
  have I3 : Inv X pins σ H2 { s2 with heap := h' } := I2.kept (t' := s2.toks) hkp
  have li : h'.IsListIter s2.heap.objs.size a 0 := ⟨_, hit, rfl, rfl⟩
  refine ⟨s2.heap.objs.size + 1, [s2.heap.objs.size + 1, s2.heap.objs.size], _, _, H2, rfl, I3, turn_enumK k a (s2.heap.objs.size + 1) s2.heap.objs.size, ⟨⟨.none, by rw [show k + ((0 : Nat) : Int) = k by omega]; exact hen⟩, li, Nat.succ_ne_self _⟩, fun b hb => ?_, q⟩
  have hle : s2.heap.objs.size ≤ b := by
    rcases (show b = s2.heap.objs.size + 1 ∨ b = s2.heap.objs.size by simpa using hb) with z | z
    · rw [z]; exact Nat.le_add_right _ _
    · rw [z]; exact Nat.le_refl _
  exact I2.fpOk hle (I2.hok.fresh hle)
theorem walk_enumK {K : PySem.W.Frag} {a : Addr} {xs : List V} {k : Int} : Walk (IteK K a k) xs.length (fun H => SqL K H a xs) (YPair (fun i => some (.int (k + (i : Nat)))) (fun i => xs[i]?)) := by
  refine ⟨fun i _ hi q => ⟨xs, xs[i], q, by simp [hi]⟩, fun _ q => ⟨xs, q, rfl⟩, fun i H v H' _ q y => ?_⟩
  obtain ⟨T, x, h1, h2, h3, h4⟩ := y
  exact ⟨T, .int (k + (i : Nat)), x, h1, h2, h3, rfl, h4 xs q⟩
/-! a def called with keywords alone -/
section
variable {X : Cx} {CX : CXT} {k : Nat} {f : Addr} {fd : FuncData} {ps ks : List Str} {sp : Sp} {E : XK} {x : Str} {p pos : Pos} {kws : List Keyword} {tk : TA} {g : List Value → List Value → List Value} {gV : List V → List V → List V}
def tCallK0 (sp : Sp) (gV : List V → List V → List V) (E : XK) (tk : TA) : TE := fun σ H Q => tk σ H fun zs H2 => sp (gV [] zs) H2 Q E
theorem pe_callK0 (F : FnOk X.prog X.w X.K X.mg X.base CX k f fd ps sp) (hr : Room k X.A) (hg : Gl X x) (hm : X.mg x = some (.ref f)) (hk : PySem.W.keepIn X.K (.ref f) = true) (hb : KBinds X.K fd ps ks g gV) (hx : Passes CX X E) (hkw : PK X kws tk)
    (hall : (backToKw pos (keywordEach kws X.env)).all (·.1.isSome) = true := by rfl) (hks : (backToKw pos (keywordEach kws X.env)).filterMap (·.1) = ks := by rfl) (hdb : (x == ("__debug__" : Str)) = false := by decide)
    (hpl : ((backTo pos (starEach [] X.env)).any (·.1) || (backToKw pos (keywordEach kws X.env)).any (·.1.isNone)) = false := by rfl) : PE X (.Call (.Name x p) [] kws pos) (tCallK0 sp gV E tk) := by
  refine ⟨fun pins s σ H Q I h => ?_⟩
  refine wpAny_Call_Name_kw (ld_glob I hg hm ?_ hdb)
  refine PySem.W.callWith_KW0 (h₀ := X.base) I.ok.mod.kin hk hall (thn (hkw.run pos pins s σ H _ I h) fun ws s2 ⟨zs, H2, I2, rz, q2⟩ => ⟨I2.kIn, ?_⟩) hpl
  rw [hks]
  exact run_fnk F hr hb hx I2 .nil rz q2
end
end Hw

set_option Elab.async false
set_option linter.all false
set_option maxRecDepth 100000
set_option maxHeartbeats 4000000
namespace Hw
open PySem L2 PyProof.Rows
/-! the less and the greater of two texts -/
def strLt (a b : Str) : Bool := decide (a.cps.toList < b.cps.toList)
def txtV : Value → Str
  | .str x _ => x
  | _ => Str.ofString ""
def IsS (v : Value) : Prop := ∃ x t, v = .str x t
theorem cmpS_lt {prog : Program} {w : World} {A : Around} (vs : Array Value) (hn : ∀ v ∈ vs, IsS v) :
    CmpOf prog w A .Lt (fun i v => vs[i]? = some v) (fun i j => strLt (txtV (vs.getD i .none)) (txtV (vs.getD j .none))) := fun i j vi vj s Q E hi hj h => by
  have e1 : vs.getD i .none = vi := by simp [Array.getD_eq_getD_getElem?, hi]
  have e2 : vs.getD j .none = vj := by simp [Array.getD_eq_getD_getElem?, hj]
  simp only [e1, e2] at h
  obtain ⟨x, t, rfl⟩ := hn _ (Array.mem_of_getElem? hi)
  obtain ⟨y, u, rfl⟩ := hn _ (Array.mem_of_getElem? hj)
  exact PyProof.Rows.lt_str h
theorem cmpS_gt {prog : Program} {w : World} {A : Around} (vs : Array Value) (hn : ∀ v ∈ vs, IsS v) :
    CmpOf prog w A .Gt (fun i v => vs[i]? = some v) (fun i j => strLt (txtV (vs.getD j .none)) (txtV (vs.getD i .none))) := fun i j vi vj s Q E hi hj h => by
  have e1 : vs.getD i .none = vi := by simp [Array.getD_eq_getD_getElem?, hi]
  have e2 : vs.getD j .none = vj := by simp [Array.getD_eq_getD_getElem?, hj]
  simp only [e1, e2] at h
  obtain ⟨x, t, rfl⟩ := hn _ (Array.mem_of_getElem? hi)
  obtain ⟨y, u, rfl⟩ := hn _ (Array.mem_of_getElem? hj)
  exact PySem.P.gt_str h
theorem max_two_S {prog : Program} {w : World} {A : Around} {E : Value → Shared → Prop} {s : Shared} {Q : Value → Shared → Prop} {a b : Value} (hh : A.handled = none) (ha : IsS a) (hb : IsS b)
    (h : ∀ h' tk, (∀ c o, s.heap.get? c = some o → h'.get? c = some o) → Q (if strLt (txtV a) (txtV b) then b else a) { s with heap := h', toks := tk }) :
    wpAny (model prog w) A (call (.builtin "max") [a, b]) Q E s := by
  have hT : (s.heap.push { cls := .type "tuple", data := .seq #[a, b] }).IsTuple s.heap.objs.size #[a, b] := ⟨_, Heap.get?_push_size _ rfl, rfl, 0, rfl⟩
  refine call_max_two (wpAny_pyIter_tuple hT ?_)
  have hsz : (s.heap.push { cls := .type "tuple", data := .seq #[a, b] }).objs.size = s.heap.objs.size + 1 := Heap.size_push ..
  refine ⟨_, [_, s.heap.objs.size], [_], _, _, _, _, rfl, Walks.tuple (A := A.in1) hh _ s.heap.objs.size (by rw [hsz]; exact Nat.ne_of_lt (Nat.lt_succ_self _)) #[a, b],
    ⟨⟨_, Heap.get?_push_size _ rfl, rfl, rfl⟩, hT.push _⟩, fun c hc => ?_, by simp, cmpS_gt #[a, b] (by simp [ha, hb]), fun v h' tk hP hk => ?_⟩
  · show c < ((s.heap.push _).push _).objs.size
    rw [Heap.size_push, hsz]
    rcases List.mem_cons.mp hc with rfl | hc
    · rw [hsz]; exact Nat.lt_succ_self _
    · rcases List.mem_cons.mp hc with rfl | hc
      · exact Nat.lt_succ_of_lt (Nat.lt_succ_self _)
      · cases hc
  · have hold : ∀ c o, s.heap.get? c = some o → h'.get? c = some o := fun c o e => by
      refine hk c o (fun hm => ?_) (Heap.get?_push_of_some _ (Heap.get?_push_of_some _ e))
      rcases List.mem_cons.mp hm with e1 | hm
      · have := Heap.lt_size e; rw [e1, hsz] at this; exact Nat.lt_irrefl _ (Nat.lt_of_succ_lt this)
      · cases hm
    have := h h' tk hold
    have hv : v = if strLt (txtV a) (txtV b) then b else a := by
      cases hc : strLt (txtV a) (txtV b) <;> simp [argBest, hc] at hP <;> simp [hP]
    rw [hv]; exact this
theorem min_two_S {prog : Program} {w : World} {A : Around} {E : Value → Shared → Prop} {s : Shared} {Q : Value → Shared → Prop} {a b : Value} (hh : A.handled = none) (ha : IsS a) (hb : IsS b)
    (h : ∀ h' tk, (∀ c o, s.heap.get? c = some o → h'.get? c = some o) → Q (if strLt (txtV b) (txtV a) then b else a) { s with heap := h', toks := tk }) :
    wpAny (model prog w) A (call (.builtin "min") [a, b]) Q E s := by
  have hT : (s.heap.push { cls := .type "tuple", data := .seq #[a, b] }).IsTuple s.heap.objs.size #[a, b] := ⟨_, Heap.get?_push_size _ rfl, rfl, 0, rfl⟩
  refine call_min_two (wpAny_pyIter_tuple hT ?_)
  have hsz : (s.heap.push { cls := .type "tuple", data := .seq #[a, b] }).objs.size = s.heap.objs.size + 1 := Heap.size_push ..
  refine ⟨_, [_, s.heap.objs.size], [_], _, _, _, _, rfl, Walks.tuple (A := A.in1) hh _ s.heap.objs.size (by rw [hsz]; exact Nat.ne_of_lt (Nat.lt_succ_self _)) #[a, b],
    ⟨⟨_, Heap.get?_push_size _ rfl, rfl, rfl⟩, hT.push _⟩, fun c hc => ?_, by simp, cmpS_lt #[a, b] (by simp [ha, hb]), fun v h' tk hP hk => ?_⟩
  · show c < ((s.heap.push _).push _).objs.size
    rw [Heap.size_push, hsz]
    rcases List.mem_cons.mp hc with rfl | hc
    · rw [hsz]; exact Nat.lt_succ_self _
    · rcases List.mem_cons.mp hc with rfl | hc
      · exact Nat.lt_succ_of_lt (Nat.lt_succ_self _)
      · cases hc
  · have hold : ∀ c o, s.heap.get? c = some o → h'.get? c = some o := fun c o e => by
      refine hk c o (fun hm => ?_) (Heap.get?_push_of_some _ (Heap.get?_push_of_some _ e))
      rcases List.mem_cons.mp hm with e1 | hm
      · have := Heap.lt_size e; rw [e1, hsz] at this; exact Nat.lt_irrefl _ (Nat.lt_of_succ_lt this)
      · cases hm
    have := h h' tk hold
    have hv : v = if strLt (txtV b) (txtV a) then b else a := by
      cases hc : strLt (txtV b) (txtV a) <;> simp [argBest, hc] at hP <;> simp [hP]
    rw [hv]; exact this
section
variable {X : Cx}
theorem call_maxS (hc : X.calm = true) : CallR X (.builtin "max") (fun xs H Q => ∃ a b, xs = [.str a, .str b] ∧ Q (.str (if strLt a b = true then b else a)) H) := by
  intro pins s σ H xs us Q I r h
  obtain ⟨i, j, rfl, q⟩ := h
  obtain ⟨u, w', rfl, ⟨t, rfl⟩, ⟨t', rfl⟩⟩ := vals2 r
  refine max_two_S (I.ok.hd hc) ⟨_, _, rfl⟩ ⟨_, _, rfl⟩ fun h' tk k => ⟨_, H, I.kept k, ?_, q⟩
  show RelV _ (if strLt i j = true then _ else _)
  by_cases hj : strLt i j = true
  · rw [if_pos hj, if_pos hj]; exact ⟨_, rfl⟩
  · rw [if_neg hj, if_neg hj]; exact ⟨_, rfl⟩
theorem call_minS (hc : X.calm = true) : CallR X (.builtin "min") (fun xs H Q => ∃ a b, xs = [.str a, .str b] ∧ Q (.str (if strLt b a = true then b else a)) H) := by
  intro pins s σ H xs us Q I r h
  obtain ⟨i, j, rfl, q⟩ := h
  obtain ⟨u, w', rfl, ⟨t, rfl⟩, ⟨t', rfl⟩⟩ := vals2 r
  refine min_two_S (I.ok.hd hc) ⟨_, _, rfl⟩ ⟨_, _, rfl⟩ fun h' tk k => ⟨_, H, I.kept k, ?_, q⟩
  show RelV _ (if strLt j i = true then _ else _)
  by_cases hj : strLt j i = true
  · rw [if_pos hj, if_pos hj]; exact ⟨_, rfl⟩
  · rw [if_neg hj, if_neg hj]; exact ⟨_, rfl⟩
/-! sorted over data, any number -/
def rSortB (K : PySem.W.Frag) : List V → Hp → VK → Prop := fun vs H Q => ∃ (a : Addr) (bs : List (V × PyData)), vs = [V.ref a] ∧ SqL K H a (bs.map (·.1)) ∧ (∀ b ∈ bs, Dp K H b.1 b.2 ∧ b.2.depth ≤ 50) ∧ PySem.W.AllAlike (bs.map (·.2)) ∧ PySem.W.Sortable (bs.map (·.2)) ∧ bs.length ≤ sizeLine ∧
  ∀ p, H p = none → Q (.ref p) (upd H p (.lst ((bs.mergeSort (PySem.W.dataLe false (·.2))).map (·.1))))
theorem each_of_vals {K : PySem.W.Frag} {P : Program} : ∀ {bs : List (V × PyData)} {us : List Value}, Vals (bs.map (·.1)) us → PySem.W.EachIs (fun (v : Value) (b : V × PyData) => RelV b.1 v) us bs
  | [], _, r => by cases r; exact .nil
  | b :: bs, _, r => by
    cases r with
    | cons r1 r2 => exact .cons r1 (each_of_vals (K := K) (P := P) r2)
theorem vals_of_each : ∀ {bs : List (V × PyData)} {us : List Value}, PySem.W.EachIs (fun (v : Value) (b : V × PyData) => RelV b.1 v) us bs → Vals (bs.map (·.1)) us
  | _, _, .nil => .nil
  | _, _, .cons r t => .cons r (vals_of_each t)
theorem reads_each {X : Cx} {pins : List (Addr × Obj)} {s : Shared} {σ : L2.St} {H : Hp} (I : Inv X pins σ H s) : ∀ {bs : List (V × PyData)} {us : List Value}, (∀ b ∈ bs, Dp X.K H b.1 b.2) → Vals (bs.map (·.1)) us → PySem.W.EachIs (fun (v : Value) (b : V × PyData) => ∃ as, Reads s.heap v b.2 as) us bs
  | [], _, _, r => by cases r; exact .nil
  | b :: bs, _, h, r => by
    cases r with
    | cons r1 r2 => exact .cons (Dp.reads I b.2 b.1 _ (h b List.mem_cons_self) r1) (reads_each I (fun b hb => h b (List.mem_cons_of_mem _ hb)) r2)
theorem cr_sortB (hu : X.A.units + 64 < cLine) : CallR X (.builtin "sorted") (rSortB X.K) := by
  intro pins s σ H vs us Q I r h
  obtain ⟨a, bs, rfl, hs, hd, hal, hk, hL, q⟩ := h
  obtain ⟨its, rv, hl, _⟩ := I.list hs
  rw [Vals.ref1 r]
  refine PySem.W.sorted_data (β := V × PyData) (vs := its) (bs := bs) (enc := (·.2)) (R := fun v b => RelV b.1 v) hl.isList (each_of_vals (K := X.K) (P := X.prog) rv) (reads_each I (fun b hb => (hd b hb).1) rv) hal hk hL (fun b hb => by have := (hd b hb).2; omega) fun out ho he => ?_
  have hv := vals_of_each he
  obtain ⟨ep, he'⟩ := PyProof.Rows.sortedAll_at s.heap its out.toArray
  have hlen : ((bs.mergeSort (PySem.W.dataLe false (·.2))).map (·.1)).length ≤ sizeLine := by rw [List.length_map, List.length_mergeSort]; exact hL
  exact ⟨.ref _, upd H (s.heap.objs.size + 1) (.lst ((bs.mergeSort (PySem.W.dataLe false (·.2))).map (·.1))), I.laid (t' := s.toks) (fun _ _ => PyProof.Rows.sortedAll_old) (Nat.le_succ _) ⟨hlen, out, ep, hv, he'⟩, rfl, q _ (I.hok.fresh (Nat.le_succ _))⟩
end

theorem walk_zipT {K : PySem.W.Frag} {a b : Addr} {xs ys : List V} {n : Nat} (hn : n = min xs.length ys.length) : Walk (RZ.ItzT K a b) n (fun H => SqT K H a xs ∧ SqT K H b ys) (YPair (fun i => xs[i]?) (fun i => ys[i]?)) := by
  subst hn
  refine ⟨fun i _ hi q => ?_, fun _ q => ⟨xs, ys, q.1, q.2, by omega⟩, fun i H v H' _ q y => ?_⟩
  · have h1 : i < xs.length := by omega
    have h2 : i < ys.length := by omega
    exact ⟨xs, ys, xs[i], ys[i], q.1, q.2, by simp [h1], by simp [h2]⟩
  · obtain ⟨T, x, z, h1, h2, h3, h4, h5⟩ := y
    exact ⟨T, x, z, h1, h2, h3, h4 xs q.1, h5 ys q.2⟩
/-! `<=` of two tuples of texts -/
theorem RcOp.le_str {A : Around} {s : Shared} (a b : Str) (t u : Tok) : Ob.RcOp .LtE A s (.str a t) (.str b u) (!strLt b a) := fun _ _ _ _ h => PySem.P.le_str h
def rLeS (K : PySem.W.Frag) : R2 := fun x y H Q => ∃ (a b : Addr) (ns ms : List Str), x = .ref a ∧ y = .ref b ∧ SqT K H a (ns.map V.str) ∧ SqT K H b (ms.map V.str) ∧
  Q (.bl (Ob.lexAt (fun j => ns.getD j (Str.ofString "") == ms.getD j (Str.ofString "")) (fun j => !strLt (ms.getD j (Str.ofString "")) (ns.getD j (Str.ofString ""))) (decide (ns.length ≤ ms.length)) 0 (min ns.length ms.length))) H
theorem str_item {us : List Value} {xs : List Str} (r : Vals (xs.map V.str) us) (j : Nat) (h : j < us.toArray.size) : ∃ t, us.toArray[j] = .str (xs.getD j (Str.ofString "")) t := by
  have h' : j < us.length := by simpa using h
  have hl := r.length
  rw [List.length_map] at hl
  obtain ⟨u, hu, ru⟩ := r.get (i := j) (x := V.str (xs.getD j (Str.ofString ""))) (by
    rw [List.getElem?_map, List.getElem?_eq_getElem (by omega : j < xs.length), List.getD_eq_getElem?_getD, List.getElem?_eq_getElem (by omega : j < xs.length)]; rfl)
  obtain ⟨t, rfl⟩ := ru
  refine ⟨t, ?_⟩
  rw [List.getElem?_eq_getElem h'] at hu
  simpa using Option.some.inj hu
theorem op_leS {X : Cx} (hu : X.A.units < cLine) : OpR X (compareOp .LtE) (rLeS X.K) := by
  intro pins s σ H x y v u Q I rx ry h
  obtain ⟨a, b, ns, ms, rfl, rfl, ha, hb, q⟩ := h
  cases rx
  cases ry
  obtain ⟨its, r1, p1, _⟩ := I.tuple ha
  obtain ⟨its2, r2, p2, _⟩ := I.tuple hb
  have e1 : its.toArray.size = ns.length := by rw [List.size_toArray, ← r1.length, List.length_map]
  have e2 : its2.toArray.size = ms.length := by rw [List.size_toArray, ← r2.length, List.length_map]
  have R := Ob.RcOp.tuples_le (A := X.A) (s := s) (e := fun j => ns.getD j (Str.ofString "") == ms.getD j (Str.ofString "")) (r := fun j => !strLt (ms.getD j (Str.ofString "")) (ns.getD j (Str.ofString ""))) p1 p2 hu (fun j h1 h2 => by
    obtain ⟨t, et⟩ := str_item r1 j h1
    obtain ⟨t', et'⟩ := str_item r2 j h2
    rw [et, et']
    exact SeqAt.EqAt.str_str _ _ _ _) (fun j h1 h2 _ => by
    obtain ⟨t, et⟩ := str_item r1 j h1
    obtain ⟨t', et'⟩ := str_item r2 j h2
    rw [et, et']
    exact RcOp.le_str _ _ _ _)
  rw [e1, e2] at R
  have z : wpAny (model X.prog X.w) X.A (compareOp .LtE (.ref a) (.ref b)) (EP X pins σ Q) X.xe s := R X.prog X.w X.xe (EP X pins σ Q) ⟨.bl _, H, I, rfl, q⟩
  exact z

/-! `v in x`, `v not in x` by the class's own `__contains__` -/
section
variable {X : Cx} {CX : CXT} {k : Nat} {f C : Addr} {fd : FuncData} {ps : List Str} {sp : Sp} {dvs : List V} {ds : List Value} {E : XK}
def rInM (C : Addr) (sp : Sp) (dvs : List V) (E : XK) (neg : Bool) : R2 := fun x y H Q => ∃ p dx fs, y = .ref p ∧ H p = some (.ins C dx fs) ∧ sp ([.ref p, x] ++ dvs) H (fun r H' => ∃ b, r = .bl b ∧ Q (.bl (if neg = true then !b else b)) H') E
theorem has_M {pins : List (Addr × Obj)} {s : Shared} {σ : L2.St} {H : Hp} {x : V} {v : Value} {p dx : Addr} {fs : List (Str × V)} {Qb : Bool → Shared → Prop} {Q' : VK} (I : Inv X pins σ H s) (rx : RelV x v) (hp : H p = some (.ins C dx fs)) (hm : Meth X.K C "__contains__" f) (F : FnOk X.prog X.w X.K X.mg X.base CX k f fd ps sp) (hr : Room k X.A) (hb : Binds X.K fd ps ds) (hd : Vals dvs ds) (hx : Passes CX X E)
    (h : sp ([.ref p, x] ++ dvs) H Q' E) (hq : ∀ u s1, EP X pins σ Q' u s1 → ∃ b, u = .bool b ∧ Qb b s1) : wpAny (model X.prog X.w) X.A (contains (.ref p) v) Qb X.xe s := by
  obtain ⟨mA, O, r, _⟩ := ins_get I.hok hp
  obtain ⟨od, J, hl⟩ := O.look
  unfold contains
  refine wpAny_holding (wpAny_bind (wpAny_bind (J.type.here ((PySem.W.looks_findIn I.kIn hm.at_).here ?_))))
  rw [if_neg (by simp)]
  refine wpAny_bind (PySem.W.unlessNone_K I.kIn J hm.at_ hm.fn ?_)
  refine thn (run_fn (us := [.ref p, v]) (vs := [.ref p, x]) F hr hb hd hx I (.cons rfl (.cons rx .nil)) h) fun u s1 hu => ?_
  obtain ⟨b, rfl, q⟩ := hq u s1 hu
  exact wpAny_truthy_bool q
theorem op_inM (hm : Meth X.K C "__contains__" f) (F : FnOk X.prog X.w X.K X.mg X.base CX k f fd ps sp) (hr : Room k X.A) (hb : Binds X.K fd ps ds) (hd : Vals dvs ds) (hx : Passes CX X E) : OpR X (compareOp .In) (rInM C sp dvs E false) := by
  intro pins s σ H x y v u Q I rx ry h
  obtain ⟨p, dx, fs, rfl, hp, h⟩ := h
  obtain rfl : u = Value.ref p := ry
  refine wpAny_bind (has_M (Qb := fun b s1 => wpAny (model X.prog X.w) X.A (pure (Value.bool b)) (EP X pins σ Q) X.xe s1) I rx hp hm F hr hb hd hx h fun u s1 hu => ?_)
  obtain ⟨z, H', I', rz, b, rfl, q⟩ := hu
  cases rz
  exact ⟨b, rfl, wpAny_pure ⟨.bl b, H', I', rfl, q⟩⟩
theorem op_notInM (hm : Meth X.K C "__contains__" f) (F : FnOk X.prog X.w X.K X.mg X.base CX k f fd ps sp) (hr : Room k X.A) (hb : Binds X.K fd ps ds) (hd : Vals dvs ds) (hx : Passes CX X E) : OpR X (compareOp .NotIn) (rInM C sp dvs E true) := by
  intro pins s σ H x y v u Q I rx ry h
  obtain ⟨p, dx, fs, rfl, hp, h⟩ := h
  obtain rfl : u = Value.ref p := ry
  refine wpAny_bind (has_M (Qb := fun b s1 => wpAny (model X.prog X.w) X.A (pure (Value.bool (!b))) (EP X pins σ Q) X.xe s1) I rx hp hm F hr hb hd hx h fun u s1 hu => ?_)
  obtain ⟨z, H', I', rz, b, rfl, q⟩ := hu
  cases rz
  exact ⟨b, rfl, wpAny_pure ⟨.bl (!b), H', I', rfl, q⟩⟩
end
end Hw

set_option Elab.async false
set_option linter.all false
set_option maxRecDepth 100000
set_option maxHeartbeats 4000000
namespace Hw
open PySem PySem.Spec L2 PyProof.Rows
/-! the order of texts and of pairs of texts -/
theorem strLt_irr (a : Str) : strLt a a = false := decide_eq_false (List.lt_irrefl _)
theorem strLt_tr {a b c : Str} (h : strLt a b = true) (h' : strLt b c = true) : strLt a c = true := decide_eq_true (List.lt_trans (of_decide_eq_true h) (of_decide_eq_true h'))
theorem strLt_as {a b : Str} (h : strLt a b = true) : strLt b a = false := by
  cases e : strLt b a with
  | false => rfl
  | true => have := strLt_tr h e; rw [strLt_irr] at this; cases this
theorem strLt_tri {a b : Str} (h : strLt a b = false) (h' : strLt b a = false) : a = b := by
  refine str_ext (List.le_antisymm ?_ ?_)
  · exact List.not_lt.mp (of_decide_eq_false h')
  · exact List.not_lt.mp (of_decide_eq_false h)
theorem strLt_ne {a b : Str} (h : strLt a b = true) : a ≠ b := fun e => by rw [e, strLt_irr] at h; cases h
def leS (a b : Str) : Bool := !strLt b a
theorem leS_tr (a b c : Str) (h : leS a b = true) (h' : leS b c = true) : leS a c = true := by
  unfold leS at *
  cases e : strLt c a with
  | false => rfl
  | true =>
    cases e1 : strLt b a with
    | true => rw [e1] at h; cases h
    | false =>
      cases e2 : strLt a b with
      | true => rw [strLt_tr e e2] at h'; cases h'
      | false => rw [strLt_tri e1 e2, e] at h'; cases h'
theorem leS_tot (a b : Str) : (leS a b || leS b a) = true := by
  unfold leS
  cases e : strLt b a with
  | false => rfl
  | true => rw [strLt_as e]; rfl
theorem leS_anti {a b : Str} (h : leS a b = true) (h' : leS b a = true) : a = b := by
  unfold leS at h h'
  exact strLt_tri (by simpa using h') (by simpa using h)
def sortS (l : List Str) : List Str := l.mergeSort leS
def Asc (l : List Str) : Prop := l.Pairwise fun a b => strLt a b = true
theorem sortS_perm (l : List Str) : (sortS l).Perm l := List.mergeSort_perm l leS
theorem sortS_le (l : List Str) : (sortS l).Pairwise fun a b => leS a b = true := List.pairwise_mergeSort leS_tr leS_tot l
theorem asc_of_le {l : List Str} (h : l.Pairwise fun a b => leS a b = true) (hn : l.Nodup) : Asc l := by
  refine (h.and hn).imp ?_
  rintro a b ⟨h1, h2⟩
  cases e : strLt a b with
  | true => rfl
  | false => exact absurd (strLt_tri e (by simpa [leS] using h1)) h2
theorem sortS_asc {l : List Str} (h : l.Nodup) : Asc (sortS l) := asc_of_le (sortS_le l) ((sortS_perm l).nodup_iff.mpr h)
theorem Asc.nodup {l : List Str} (h : Asc l) : l.Nodup := h.imp fun q => strLt_ne q
theorem Asc.le {l : List Str} (h : Asc l) : l.Pairwise fun a b => leS a b = true := h.imp fun q => by unfold leS; rw [strLt_as q]; rfl
theorem sortS_eq {l m : List Str} (h : m.Perm l) (hm : m.Pairwise fun a b => leS a b = true) : m = sortS l :=
  List.Perm.eq_of_pairwise (le := fun a b => leS a b = true) (fun a b _ _ h1 h2 => leS_anti h1 h2) hm (sortS_le l) (h.trans (sortS_perm l).symm)
theorem sortS_asc_id {l : List Str} (h : Asc l) : sortS l = l := (sortS_eq (.refl _) h.le).symm
theorem sortS_of_perm {l m : List Str} (h : l.Perm m) : sortS l = sortS m := sortS_eq ((sortS_perm l).trans h) (sortS_le l)
theorem risingS_le : ∀ (l : List Str) (p : Str), risingS p l = true → (p :: l).Pairwise fun a b => leS a b = true
  | [], _, _ => List.pairwise_singleton _ _
  | x :: r, p, h => by
    have h' : (!ltCps x.cps.toList p.cps.toList && risingS x r) = true := h
    rw [Bool.and_eq_true] at h'
    have ih := risingS_le r x h'.2
    have hpx : leS p x = true := by
      have := h'.1
      rw [PyProof.Rows.ltCps_eq] at this
      exact this
    refine List.pairwise_cons.mpr ⟨fun y hy => ?_, ih⟩
    rcases List.mem_cons.mp hy with rfl | hy
    · exact hpx
    · exact leS_tr _ _ _ hpx ((List.pairwise_cons.mp ih).1 y hy)
theorem sortedS_le : ∀ {l : List Str}, sortedS l = true → l.Pairwise fun a b => leS a b = true
  | [], _ => .nil
  | x :: r, h => risingS_le r x h
theorem sortedS_eq {l m : List Str} (h : m.Perm l) (hm : sortedS m = true) : m = sortS l := sortS_eq h (sortedS_le hm)
abbrev Tie := Str × Str
def ltP (p q : Tie) : Bool := if p.1 == q.1 then strLt p.2 q.2 else strLt p.1 q.1
def leP (p q : Tie) : Bool := !ltP q p
theorem ltP_irr (p : Tie) : ltP p p = false := by unfold ltP; rw [if_pos (beq_self_eq_true _), strLt_irr]
theorem ltP_iff {p q : Tie} : ltP p q = true ↔ strLt p.1 q.1 = true ∨ p.1 = q.1 ∧ strLt p.2 q.2 = true := by
  unfold ltP
  by_cases h : p.1 = q.1
  · rw [if_pos (beq_iff_eq.mpr h), h, strLt_irr]; simp
  · rw [if_neg (by simpa using h)]; simp [h]
theorem ltP_tr {p q r : Tie} (h : ltP p q = true) (h' : ltP q r = true) : ltP p r = true := by
  rw [ltP_iff] at *
  rcases h with h | ⟨e, h⟩ <;> rcases h' with h' | ⟨e', h'⟩
  · exact .inl (strLt_tr h h')
  · exact .inl (e' ▸ h)
  · exact .inl (e ▸ h')
  · exact .inr ⟨e.trans e', strLt_tr h h'⟩
theorem ltP_tri {p q : Tie} (h : ltP p q = false) (h' : ltP q p = false) : p = q := by
  have a : ¬ (ltP p q = true) := by rw [h]; exact Bool.false_ne_true
  have b : ¬ (ltP q p = true) := by rw [h']; exact Bool.false_ne_true
  rw [ltP_iff] at a b
  have e : p.1 = q.1 := strLt_tri (by simpa using fun z => a (.inl z)) (by simpa using fun z => b (.inl z))
  have e2 : p.2 = q.2 := strLt_tri (by simpa using fun z => a (.inr ⟨e, z⟩)) (by simpa using fun z => b (.inr ⟨e.symm, z⟩))
  exact Prod.ext e e2
theorem ltP_as {p q : Tie} (h : ltP p q = true) : ltP q p = false := by
  cases e : ltP q p with
  | false => rfl
  | true => have := ltP_tr h e; rw [ltP_irr] at this; cases this
theorem leP_tr (a b c : Tie) (h : leP a b = true) (h' : leP b c = true) : leP a c = true := by
  unfold leP at *
  cases e : ltP c a with
  | false => rfl
  | true =>
    cases e1 : ltP b a with
    | true => rw [e1] at h; cases h
    | false =>
      cases e2 : ltP a b with
      | true => rw [ltP_tr e e2] at h'; cases h'
      | false => rw [ltP_tri e1 e2, e] at h'; cases h'
theorem leP_tot (a b : Tie) : (leP a b || leP b a) = true := by
  unfold leP
  cases e : ltP b a with
  | false => rfl
  | true => rw [ltP_as e]; rfl
def sortP (l : List Tie) : List Tie := l.mergeSort leP
def AscP (l : List Tie) : Prop := l.Pairwise fun a b => ltP a b = true
theorem sortP_perm (l : List Tie) : (sortP l).Perm l := List.mergeSort_perm l leP
theorem sortP_le (l : List Tie) : (sortP l).Pairwise fun a b => leP a b = true := List.pairwise_mergeSort leP_tr leP_tot l
theorem sortP_asc {l : List Tie} (hn : l.Nodup) : AscP (sortP l) := by
  refine ((sortP_le l).and ((sortP_perm l).nodup_iff.mpr hn)).imp ?_
  rintro a b ⟨h1, h2⟩
  cases e : ltP a b with
  | true => rfl
  | false => exact absurd (ltP_tri e (by simpa [leP] using h1)) h2
/-! sorted of texts, of pairs of texts -/
def tieD (p : Tie) : PyData := .tuple [.str p.1, .str p.2]
theorem dataLe_tie (p q : Tie) : PySem.W.dataLe false id (tieD p) (tieD q) = leP p q := by
  rw [PySem.W.dataLe_eq]
  show (!PySem.W.dataLt (tieD q) (tieD p)) = _
  unfold tieD leP ltP
  rw [PySem.W.dataLt_pair (by simp [PySem.W.alike]) (by simp [PySem.W.alike]), PySem.W.dataLt_str, PySem.W.dataLt_str]
  simp only [PyData.eqv]
  by_cases h1 : q.1 = p.1
  · by_cases h2 : q.2 = p.2
    · simp [h1, h2, strLt]
    · simp [h1, h2, strLt]
  · simp [h1, strLt]
section
variable {X : Cx}
def rSortT (K : PySem.W.Frag) : List V → Hp → VK → Prop := fun vs H Q => ∃ (a : Addr) (zs : List Str), vs = [V.ref a] ∧ SqL K H a (zs.map V.str) ∧ zs.length ≤ sizeLine ∧ ∀ p, H p = none → Q (.ref p) (upd H p (.lst ((sortS zs).map V.str)))
theorem cr_sortT (hu : X.A.units + 64 < cLine) : CallR X (.builtin "sorted") (rSortT X.K) := by
  intro pins s σ H vs us Q I r h
  obtain ⟨a, zs, rfl, hs, hz, q⟩ := h
  have e1 : (zs.map fun z => (V.str z, PyData.str z)).map (·.1) = zs.map V.str := by rw [List.map_map]; rfl
  have e2 : (zs.map fun z => (V.str z, PyData.str z)).map (·.2) = zs.map PyData.str := by rw [List.map_map]; rfl
  refine cr_sortB hu pins s σ H _ us Q I r ⟨a, zs.map fun z => (V.str z, PyData.str z), rfl, by rw [e1]; exact hs, fun b hb => ?_, ?_, ?_, by rw [List.length_map]; exact hz, fun p hp => ?_⟩
  · obtain ⟨z, _, rfl⟩ := List.mem_map.mp hb
    exact ⟨Dp_flat rfl, by show PyData.depth (.str z) ≤ 50; rw [PyData.depth]; decide⟩
  · rw [e2]; exact PySem.W.AllAlike.of fun _ _ => by simp [PySem.W.alike]
  · rw [e2]; exact PySem.W.Sortable.others (enc := PyData.str) fun z => ⟨(fun e => nomatch e), fun xs e => nomatch e⟩
  · have e : (zs.map fun z => (V.str z, PyData.str z)).mergeSort (PySem.W.dataLe false (·.2)) = (sortS zs).map fun z => (V.str z, PyData.str z) := by
      refine (List.map_mergeSort fun a _ b _ => ?_).symm
      rw [PySem.W.dataLe_eq]
      show leS a b = !PySem.W.dataLt (.str b) (.str a)
      rw [PySem.W.dataLt_str]; rfl
    rw [e, List.map_map]
    exact q p hp

def TieAt (K : PySem.W.Frag) (H : Hp) (q : Addr) (p : Tie) : Prop := SqT K H q [.str p.1, .str p.2]
theorem zip_of {α β : Type} {F : α → β → Prop} : ∀ {xs : List α} {ys : List β}, Paired F xs ys → ∃ l : List (α × β), l.map (·.1) = xs ∧ l.map (·.2) = ys ∧ ∀ p ∈ l, F p.1 p.2
  | _, _, .nil => ⟨[], rfl, rfl, fun _ z => nomatch z⟩
  | _, _, .cons (a := a) (b := b) h t => by
    obtain ⟨l, rfl, rfl, h3⟩ := zip_of t
    refine ⟨(a, b) :: l, rfl, rfl, fun p hp => ?_⟩
    rcases List.mem_cons.mp hp with rfl | hp
    · exact h
    · exact h3 p hp
theorem paired_of {α β : Type} {F : α → β → Prop} : ∀ {l : List (α × β)}, (∀ p ∈ l, F p.1 p.2) → Paired F (l.map (·.1)) (l.map (·.2))
  | [], _ => .nil
  | p :: l, h => .cons (h p List.mem_cons_self) (paired_of fun q hq => h q (List.mem_cons_of_mem _ hq))
theorem paired_mem {α β : Type} {F : α → β → Prop} : ∀ {l : List (α × β)}, Paired F (l.map (·.1)) (l.map (·.2)) → ∀ p ∈ l, F p.1 p.2
  | [], _, _, z => nomatch z
  | q :: l, h, p, hp => by
    cases h with
    | cons h1 h2 =>
      rcases List.mem_cons.mp hp with rfl | hp
      · exact h1
      · exact paired_mem h2 p hp
def rSortTP (K : PySem.W.Frag) : List V → Hp → VK → Prop := fun vs H Q => ∃ (a : Addr) (qs : List Addr) (ps : List Tie), vs = [V.ref a] ∧ SqL K H a (qs.map V.ref) ∧ Paired (TieAt K H) qs ps ∧ ps.length ≤ sizeLine ∧
  ∀ p qs', H p = none → (∀ R : Addr → Tie → Prop, Paired R qs ps → Paired R qs' (sortP ps)) → Q (.ref p) (upd H p (.lst (qs'.map V.ref)))
theorem cr_sortTP (hu : X.A.units + 64 < cLine) : CallR X (.builtin "sorted") (rSortTP X.K) := by
  intro pins s σ H vs us Q I r h
  obtain ⟨a, qs, ps, rfl, hs, hp, hz, q⟩ := h
  obtain ⟨l, rfl, rfl, hl⟩ := zip_of hp
  have e1 : (l.map fun x => (V.ref x.1, tieD x.2)).map (·.1) = (l.map (·.1)).map V.ref := by rw [List.map_map, List.map_map]; rfl
  have e2 : (l.map fun x => (V.ref x.1, tieD x.2)).map (·.2) = (l.map (·.2)).map tieD := by rw [List.map_map, List.map_map]; rfl
  rw [List.length_map] at hz
  refine cr_sortB hu pins s σ H _ us Q I r ⟨a, l.map fun x => (V.ref x.1, tieD x.2), rfl, by rw [e1]; exact hs, fun b hb => ?_, ?_, ?_, by rw [List.length_map]; exact hz, fun p hp => ?_⟩
  · obtain ⟨z, hz, rfl⟩ := List.mem_map.mp hb
    refine ⟨.tup (hl z hz) (.cons (Dp_flat rfl) (.cons (Dp_flat rfl) .nil)), ?_⟩
    show PyData.depth (tieD z.2) ≤ 50
    unfold tieD
    simp [PyData.depth, PyData.depthAll]
  · rw [e2]; exact PySem.W.AllAlike.of fun _ _ => by simp [PySem.W.alike, PySem.W.alikeAll, tieD]
  · rw [e2]; exact PySem.W.Sortable.tuples (enc := tieD) fun z => ⟨_, _, rfl⟩
  · have e : (l.map fun x => (V.ref x.1, tieD x.2)).mergeSort (PySem.W.dataLe false (·.2)) = (l.mergeSort fun x y => leP x.2 y.2).map fun x => (V.ref x.1, tieD x.2) := by
      refine (List.map_mergeSort fun a _ b _ => ?_).symm
      exact (dataLe_tie a.2 b.2).symm
    have e3 : (l.mergeSort fun x y => leP x.2 y.2).map (·.2) = sortP (l.map (·.2)) := List.map_mergeSort fun a _ b _ => rfl
    rw [e, List.map_map]
    have := q p ((l.mergeSort fun x y => leP x.2 y.2).map (·.1)) hp (fun R hR => by
      rw [← e3]
      exact paired_of fun x hx => paired_mem hR x (List.mem_mergeSort.mp hx))
    rw [List.map_map] at this
    exact this
end
end Hw

set_option Elab.async false
set_option linter.all false
set_option maxRecDepth 100000
set_option maxHeartbeats 4000000
namespace Hw
open PySem L2 PyProof.Rows
abbrev sTie : Stmt := topS 27
abbrev sWeb : Stmt := topS 28
def tieOf (a b : Str) : Tie := (if strLt b a = true then b else a, if strLt a b = true then b else a)
def spTie : Sp := fun vs H Q _ => ∃ a b : Str, vs = [.str a, .str b] ∧ ∀ p, H p = none → Q (.ref p) (upd H p (.tup [.str (tieOf a b).1, .str (tieOf a b).2]))
section
variable {P : Program} {w : World} {K : PySem.W.Frag} {mg : Str → Option Value} {base : Heap}
theorem scTie : FnScope ["one", "other"] ["one", "other"] (defScope sTie) := ⟨rfl, rfl, rfl, by decide +kernel, rfl, by decide +kernel, by decide +kernel⟩
theorem ok_tie {f : Addr} {fd : FuncData} {k : Nat} (F : Fun K "_law_tie" "_law_tie" sTie f fd) (B : Blt mg) : FnOk P w K mg base CX0 (k + 1) f fd ["one", "other"] spTie := by
  refine F.ok scTie (fun vs H Q E h => ?_) (fun cdv A outer s H vs Q E hr h => ?_)
  · obtain ⟨a, b, rfl, _⟩ := h
    rfl
  · obtain ⟨a, b, rfl, q⟩ := h
    refine ⟨_, pss_one (ps_ret (pe_tup (pa_cons (pe_callB (call_minS rfl) (by rfl) B.min PyProof.Rows.boot_min (pa_cons (pv 0) (pa_cons (pv 1) pa_nil))) (pa_cons (pe_callB (call_maxS rfl) (by rfl) B.max PyProof.Rows.boot_max (pa_cons (pv 0) (pa_cons (pv 1) pa_nil))) pa_nil)))), ?_⟩
    exact ⟨.str a, rfl, .str b, rfl, a, b, rfl, .str a, rfl, .str b, rfl, a, b, rfl, by show 2 ≤ sizeLine; decide, fun p hp => q p hp⟩

def encT (ts : List Tie) : List (List Key × V) := ts.map fun t => (([Sum.inr t.1, Sum.inr t.2] : List Key), V.bl true)
theorem encT_any (ts : List Tie) (t : Tie) : ((encT ts).any fun kv => decide (kv.1 = ([Sum.inr t.1, Sum.inr t.2] : List Key))) = decide (t ∈ ts) := by
  rw [encT, List.any_map, Bool.eq_iff_iff, List.any_eq_true, decide_eq_true_iff]
  constructor
  · rintro ⟨u, hu, e⟩
    have e' := of_decide_eq_true e
    injection e' with e1 e2
    injection e2 with e2 _
    injection e1 with e1
    injection e2 with e2
    exact (show u = t from Prod.ext e1 e2) ▸ hu
  · intro h
    exact ⟨t, h, decide_eq_true rfl⟩
theorem putT_tie (ts : List Tie) (t : Tie) : putK (encT ts) ([Sum.inr t.1, Sum.inr t.2] : List Key) (V.bl true) = encT (if t ∈ ts then ts else ts ++ [t]) := by
  unfold putK
  rw [encT_any]
  by_cases h : t ∈ ts
  · rw [if_pos (decide_eq_true h), if_pos h]
    unfold encT
    rw [List.map_map]
    refine List.map_congr_left fun u _ => ?_
    show (if _ then _ else _) = _
    split <;> rfl
  · rw [if_neg (by simpa using h), if_neg h]
    unfold encT
    rw [List.map_append]; rfl
theorem tieOf_lt {u v : Str} (h : u ≠ v) : strLt (tieOf u v).1 (tieOf u v).2 = true ∧ ((tieOf u v).1 = u ∨ (tieOf u v).1 = v) ∧ ((tieOf u v).2 = u ∨ (tieOf u v).2 = v) := by
  unfold tieOf
  cases e1 : strLt v u with
  | true =>
    rw [strLt_as e1]
    exact ⟨by simpa using e1, .inr (by simp), .inl (by simp)⟩
  | false =>
    cases e2 : strLt u v with
    | true => exact ⟨by simpa using e2, .inl (by simp), .inr (by simp)⟩
    | false => exact absurd (strLt_tri e2 e1) h
/-- a drawn web while it is drawn: its places at pl, its ties in the dict at d -/
def WB (a pl d : Addr) (ns : List Str) (H0 : Hp) (N c : Nat) (H : Hp) : Prop := SameX a H0 H ∧ Pot H a N ∧ H pl = some (.lst (ns.map V.str)) ∧ pl ≠ d ∧ pl ≠ a ∧ d ≠ a ∧ ∃ ts : List Tie, H d = some (.dT (encT ts)) ∧ ts.Nodup ∧ (∀ t ∈ ts, t.1 ∈ ns ∧ t.2 ∈ ns ∧ strLt t.1 t.2 = true) ∧ ts.length ≤ c
theorem WB.step {a pl d : Addr} {ns : List Str} {H0 H H' : Hp} {N N' c : Nat} (w : WB a pl d ns H0 N c H) (s : SameX a H H') (p : Pot H' a N') : WB a pl d ns H0 N' c H' := by
  obtain ⟨sx, hp, h1, n1, n2, n3, ts, h2, hr⟩ := w
  exact ⟨sx.trans s, p, s _ _ n2 h1, n1, n2, n3, ts, s _ _ n3 h2, hr⟩
theorem WB.mono {a pl d : Addr} {ns : List Str} {H0 H : Hp} {N N' c c' : Nat} (w : WB a pl d ns H0 N c H) (hN : N ≤ N') (hc : c ≤ c') : WB a pl d ns H0 N' c' H := by
  obtain ⟨sx, hp, h1, n1, n2, n3, ts, h2, h3, h4, h5⟩ := w
  exact ⟨sx, hp.mono hN, h1, n1, n2, n3, ts, h2, h3, h4, Nat.le_trans h5 hc⟩
theorem put_tie {a pl d : Addr} {ns : List Str} {H0 H : Hp} {N c : Nat} {u v : Str} {E : XK} {Q : Hp → Prop} (w : WB a pl d ns H0 N c H) (hd0 : H0 d = none) (hc : c ≤ 1000) (hu : u ∈ ns) (hv : v ∈ ns) (hne : u ≠ v)
    (q : ∀ Hn, WB a pl d ns H0 N (c + 1) Hn → Q Hn) : spTie [.str u, .str v] H (fun k H1 => ∃ d' Hn, V.ref d = .ref d' ∧ DPut H1 d' k (.bl true) Hn ∧ Q Hn) E := by
  obtain ⟨sx, hp, h1, n1, n2, n3, ts, h2, h3, h4, h5⟩ := w
  refine ⟨u, v, rfl, fun p hp0 => ?_⟩
  have npd : d ≠ p := ne_of_none h2 hp0
  have ed : (upd H p (.tup [.str (tieOf u v).1, .str (tieOf u v).2])) d = some (.dT (encT ts)) := by rw [upd_ne npd]; exact h2
  have et : (upd H p (.tup [.str (tieOf u v).1, .str (tieOf u v).2])) p = some (.tup (([Sum.inr (tieOf u v).1, Sum.inr (tieOf u v).2] : List Key).map kV)) := upd_same
  refine ⟨d, _, rfl, DPut.t ed et (by rw [encT, List.length_map]; exact small1000 (by omega)), q _ ?_⟩
  rw [putT_tie]
  obtain ⟨l1, l2, l3⟩ := tieOf_lt hne
  have m1 : (tieOf u v).1 ∈ ns := by rcases l2 with e | e <;> rw [e] <;> assumption
  have m2 : (tieOf u v).2 ∈ ns := by rcases l3 with e | e <;> rw [e] <;> assumption
  refine ⟨fun b o hb e => ?_, ?_, ?_, n1, n2, n3, _, upd_same, ?_, ?_, ?_⟩
  · have e1 : b ≠ d := ne_of_none e hd0
    have e2 := sx _ _ hb e
    rw [upd_ne e1, upd_ne (ne_of_none e2 hp0)]
    exact e2
  · obtain ⟨xx, yy, zz, e, hh⟩ := hp.ex
    exact ⟨xx, yy, zz, by rw [upd_ne (Ne.symm n3), upd_ne (ne_of_none e hp0)]; exact e, hh⟩
  · rw [upd_ne n1, upd_ne (ne_of_none h1 hp0)]; exact h1
  · by_cases hm : tieOf u v ∈ ts
    · rw [if_pos hm]; exact h3
    · rw [if_neg hm, List.nodup_append]
      exact ⟨h3, by simp, fun x hx y hy e => hm (by rw [List.mem_singleton.mp hy] at e; exact e ▸ hx)⟩
  · intro t ht
    by_cases hm : tieOf u v ∈ ts
    · rw [if_pos hm] at ht; exact h4 t ht
    · rw [if_neg hm] at ht
      rcases List.mem_append.mp ht with ht | ht
      · exact h4 t ht
      · rw [List.mem_singleton.mp ht]; exact ⟨m1, m2, l1⟩
  · by_cases hm : tieOf u v ∈ ts
    · rw [if_pos hm]; omega
    · rw [if_neg hm, List.length_append]
      show ts.length + 1 ≤ c + 1
      omega
end
end Hw

set_option Elab.async false
set_option linter.all false
set_option maxRecDepth 100000
set_option maxHeartbeats 4000000
namespace Hw
open PySem L2 PyProof.Rows
/-- an own web: its places ascending, its ties ascending -/
structure OwnW (ns : List Str) (ts : List Tie) : Prop where
  asc : Asc ns
  nm : ∀ z ∈ ns, Nm z
  few : ns.length ≤ 200
  tasc : AscP ts
  tie : ∀ t ∈ ts, t.1 ∈ ns ∧ t.2 ∈ ns ∧ strLt t.1 t.2 = true
  tfew : ts.length ≤ 1000
/-- an own web as it lies: a pair of lists -/
def WebAt (H : Hp) (p : Addr) (ns : List Str) (ts : List Tie) : Prop := ∃ (pl tl : Addr) (qs : List Addr), H p = some (.tup [.ref pl, .ref tl]) ∧ H pl = some (.lst (ns.map V.str)) ∧ H tl = some (.lst (qs.map V.ref)) ∧ Paired (fun q (t : Tie) => H q = some (.tup [.str t.1, .str t.2])) qs ts
def spWeb : Sp := fun vs H Q _ => ∃ (a : Addr) (m N : Nat), vs = [.ref a, .int m] ∧ Pot H a N ∧ N < 400000000 ∧ m ≤ 200 ∧
  ∀ p ns ts H', OwnW ns ts → ns.length ≤ m → ts.length ≤ 900 → WebAt H' p ns ts → SameX a H H' → Pot H' a (N + 4000) → Q (.ref p) H'
def nW : List Str := ["pot", "most", "places", "way", "ties", "at", "lap"]
theorem at_ns {ns : List Str} {r : Int} {j : Nat} (e : r = (j : Int)) (h : j < ns.length) : atI (ns.map V.str) r = some (.str ns[j]) := by
  subst e
  exact atI_nat (by rw [List.getElem?_map, List.getElem?_eq_getElem h]; rfl)
theorem at_last {ns : List Str} (h : 0 < ns.length) : atI (ns.map V.str) (-1) = some (.str (ns[ns.length - 1]'(by omega))) := by
  have hne : ns ≠ [] := fun e => by rw [e] at h; exact absurd h (by decide)
  have e1 : ns.map V.str = ns.dropLast.map V.str ++ [V.str (ns.getLast hne)] := by
    rw [← List.map_singleton, ← List.map_append, List.dropLast_concat_getLast]
  rw [e1, atI_last, List.getLast_eq_getElem]
theorem paired_mono {α β : Type} {F G : α → β → Prop} (h : ∀ x y, F x y → G x y) : ∀ {xs : List α} {ys : List β}, Paired F xs ys → Paired G xs ys
  | _, _, .nil => .nil
  | _, _, .cons a t => .cons (h _ _ a) (paired_mono h t)
theorem keys_ties {H : Hp} : ∀ {ts : List Tie} {bs : List Addr}, IsKeys H (encT ts) bs → Paired (fun q (t : Tie) => H q = some (.tup [.str t.1, .str t.2])) bs ts
  | [], _, h => by
    have h' : IsKeys H [] _ := h
    cases h'; exact .nil
  | t :: ts, _, h => by
    have h' : IsKeys H ((([Sum.inr t.1, Sum.inr t.2] : List Key), V.bl true) :: encT ts) _ := h
    cases h' with
    | cons h1 h2 => exact .cons h1 (keys_ties h2)
theorem nodup_ne {ns : List Str} (h : ns.Nodup) {i j : Nat} (hi : i < ns.length) (hj : j < ns.length) (hij : i < j) : ns[i] ≠ ns[j] := List.pairwise_iff_getElem.mp h i j hi hj hij
theorem if_any {t : TT} {A B : TS} {D : Ends} {σ : L2.St} {H : Hp} (ht : ∀ Q : Bool → Hp → Prop, Q true H → Q false H → t σ H Q) (h1 : A D σ H) (h2 : B D σ H) : tIfS t A B D σ H :=
  ht _ (show if true = true then A D σ H else B D σ H by rw [if_pos rfl]; exact h1) (show if false = true then A D σ H else B D σ H by rw [if_neg Bool.false_ne_true]; exact h2)
theorem rs_rng {wi : TI} {g : TG} {tb u : TS} {D : Ends} {σ : L2.St} {H : Hp} (lo : Int) (n : Nat) (P0 : Hp → Prop) (Pv : Nat → L2.St → Hp → Prop) (hw : ∀ R : It → Hp → Prop, (∀ H1, P0 H1 → R (Itr lo n) H1) → wi σ H R) (h0 : ∀ H1, P0 H1 → Pv 0 σ H1)
    (hs : ∀ i σ H, i < n → Pv i σ H → g (.int (lo + i)) σ H fun σ2 H2 => tb { D with nx := Pv (i + 1), ct := Pv (i + 1), bk := u D } σ2 H2) (hd : ∀ σ H, Pv n σ H → u D σ H) : tSeq (tFor wi g tb) u D σ H :=
  hw _ fun H1 p => for_range (D := { D with nx := u D }) Pv (h0 H1 p) hs hd
theorem rs_if_put {t : TT} {A B u : TS} {D : Ends} {σ : L2.St} {H : Hp} (P1 : Bool → Hp → Prop) (P2 : Hp → Prop) (ht : ∀ Q : Bool → Hp → Prop, (∀ b H', P1 b H' → Q b H') → t σ H Q) (h3 : ∀ H', P2 H' → u D σ H')
    (h1 : ∀ (D' : Ends) H', (∀ H4, P2 H4 → D'.nx σ H4) → P1 true H' → A D' σ H') (h2 : ∀ (D' : Ends) H', (∀ H4, P2 H4 → D'.nx σ H4) → P1 false H' → B D' σ H') : tSeq (tIfS t A B) u D σ H :=
  ht _ fun b H' p => by
    show if b = true then A { D with nx := u D } σ H' else B { D with nx := u D } σ H'
    cases b with
    | true => rw [if_pos rfl]; exact h1 _ H' h3 p
    | false => rw [if_neg Bool.false_ne_true]; exact h2 _ H' h3 p
def lapsD : List V := [.int 0, .int 1, .int 1, .int 2]
theorem laps_int : ∀ v ∈ lapsD, ∃ x : Nat, v = V.int (x : Int) ∧ x ≤ 2 := by
  intro v hv
  simp only [lapsD, List.mem_cons, List.not_mem_nil, or_false] at hv
  rcases hv with rfl | rfl | rfl | rfl
  · exact ⟨0, rfl, by decide⟩
  · exact ⟨1, rfl, by decide⟩
  · exact ⟨1, rfl, by decide⟩
  · exact ⟨2, rfl, by decide⟩
section
variable {P : Program} {w : World} {K : PySem.W.Frag} {mg : Str → Option Value} {base : Heap}
theorem scWeb : FnScope ["pot", "most", "places", "way", "ties", "at", "lap"] ["pot", "most"] (defScope sWeb) := ⟨rfl, rfl, rfl, by decide +kernel, rfl, by decide +kernel, by decide +kernel⟩
theorem ok_web {f fT fO fN fE : Addr} {fd fdT fdO fdN fdE : FuncData} {k : Nat} (F : Fun K "_law_web" "_law_web" sWeb f fd) (B : Blt mg) (bs : mg "sorted" = none) (GT : FnOk P w K mg base CX0 k fT fdT ["pot", "upto"] spTake) (gT : mg "_law_take" = some (.ref fT)) (kT : PySem.W.keepIn K (.ref fT) = true) (bT : Binds K fdT ["pot", "upto"] [])
    (GO : FnOk P w K mg base CX0 k fO fdO ["pot", "some"] (spOf2 K)) (gO : mg "_law_of" = some (.ref fO)) (kO : PySem.W.keepIn K (.ref fO) = true) (bO : Binds K fdO ["pot", "some"] [])
    (GN : FnOk P w K mg base CX0 k fN fdN ["pot", "many"] spNames) (gN : mg "_law_names" = some (.ref fN)) (kN : PySem.W.keepIn K (.ref fN) = true) (bN : Binds K fdN ["pot", "many"] [])
    (GE : FnOk P w K mg base CX0 k fE fdE ["one", "other"] spTie) (gE : mg "_law_tie" = some (.ref fE)) (kE : PySem.W.keepIn K (.ref fE) = true) (bE : Binds K fdE ["one", "other"] []) :
    FnOk P w K mg base CX0 (k + 1) f fd ["pot", "most"] spWeb := by
  refine F.ok scWeb (fun vs H Q E h => ?_) (fun cdv A outer s H vs Q E hr h => ?_)
  · obtain ⟨a, m, N, rfl, _⟩ := h
    rfl
  · obtain ⟨a, m, N, rfl, hP, hN, hm, q⟩ := h
    have hu := hu_of hr
    have hu64 := hr.units
    refine ⟨_, pss_cons (ps_par (i := 2) (j := 3) rfl scWeb.nd rfl rfl (by decide) rfl rfl
        (pa_cons (pe_call GN hr (by rfl) gN kN bN .nil pass0 (pa_cons (pv 0) (pa_cons (pe_call GT hr (by rfl) gT kT bT .nil pass0 (pa_cons (pv 0) (pa_cons (pe_op op_add (pv 1) pe_int) pa_nil))) pa_nil)))
          (pa_cons (pe_call GT hr (by rfl) gT kT bT .nil pass0 (pa_cons (pv 0) (pa_cons pe_int pa_nil))) pa_nil)) rfl)
      (pss_cons (ps_set (i := 4) scWeb.nd rfl (.inl rfl) pe_dnewT)
      (pss_cons (ps_for PassesOwn.never rfl (pi_range2 (by rfl) B.range (pa_cons pe_int (pa_cons (pe_callB call_len_seq (by rfl) B.len PySem.boot_len (pa_cons (pv 2) pa_nil)) pa_nil))) (pg_name (i := 5) scWeb.nd rfl (.inl rfl))
        (pss_one (ps_if (PW.pt (pw_or (pt_cmpR op_lt (pv 3) pe_int (nomark _)) (pw_or1 (PW.pt (pw_and (pt_cmpR op_eq (pv 3) pe_int (nomark _)) (pw_and1 (pt_cmpR op_gt (pv 5) pe_int (nomark _))))))))
          (pss_one (ps_for PassesOwn.never rfl (pi_range1 (by rfl) B.range (pa_cons (pe_call GO hr (by rfl) gO kO bO .nil pass0 (pa_cons (pv 0) (pa_cons (pe_lst (pa_cons pe_int (pa_cons pe_int (pa_cons pe_int (pa_cons pe_int pa_nil))))) pa_nil))) pa_nil)) (pg_name (i := 6) scWeb.nd rfl (.inl rfl))
            (pss_one (ps_dput hu (pv 4) (pe_call GE hr (by rfl) gE kE bE .nil pass0 (pa_cons (pe_ix ix_list (pv 2) (pv 5) (fun _ _ => rfl)) (pa_cons (pe_ix ix_list (pv 2) (pe_call GT hr (by rfl) gT kT bT .nil pass0 (pa_cons (pv 0) (pa_cons (pv 5) pa_nil))) (fun _ _ => rfl)) pa_nil))) pe_bl rfl))))
          (pss_one (ps_if (pt_cmpR op_eq (pv 3) pe_int (nomark _))
            (pss_one (ps_dput hu (pv 4) (pe_call GE hr (by rfl) gE kE bE .nil pass0 (pa_cons (pe_ix ix_list (pv 2) (pv 5) (fun _ _ => rfl)) (pa_cons (pe_ix ix_list (pv 2) (pe_call GT hr (by rfl) gT kT bT .nil pass0 (pa_cons (pv 0) (pa_cons (pv 5) pa_nil))) (fun _ _ => rfl)) pa_nil))) pe_bl rfl))
            (pss_one (ps_if (pt_cmpR op_eq (pv 3) pe_int (nomark _))
              (pss_one (ps_dput hu (pv 4) (pe_call GE hr (by rfl) gE kE bE .nil pass0 (pa_cons (pe_ix ix_list (pv 2) (pv 5) (fun _ _ => rfl)) (pa_cons (pe_ix ix_list (pv 2) (pe_op op_sub (pv 5) pe_int) (fun _ _ => rfl)) pa_nil))) pe_bl rfl))
              (pss_one (ps_dput hu (pv 4) (pe_call GE hr (by rfl) gE kE bE .nil pass0 (pa_cons (pe_ix ix_list (pv 2) (pv 5) (fun _ _ => rfl)) (pa_cons (pe_ix ix_list (pv 2) pe_int (fun _ _ => rfl)) pa_nil))) pe_bl rfl)))))))))
      (pss_cons (ps_if (PW.pt (pw_and (pt_cmpR op_in_seq (pv 3) (pe_tup (pa_cons pe_int (pa_cons pe_int pa_nil))) (by rfl)) (pw_and1 (pt_cmpR op_gt (pe_callB call_len_seq (by rfl) B.len PySem.boot_len (pa_cons (pv 2) pa_nil)) pe_int (nomark _)))))
        (pss_one (ps_dput hu (pv 4) (pe_call GE hr (by rfl) gE kE bE .nil pass0 (pa_cons (pe_ix ix_list (pv 2) pe_int (fun _ _ => rfl)) (pa_cons (pe_ix ix_list (pv 2) (pe_un un_neg pe_int) (fun _ _ => rfl)) pa_nil))) pe_bl rfl)) pss_nil)
      (pss_one (ps_ret (pe_tup (pa_cons (pe_callB (cr_sortT hu64) (by rfl) bs (by decide +kernel) (pa_cons (pv 2) pa_nil)) (pa_cons (pe_callB (cr_sortTP hu64) (by rfl) bs (by decide +kernel) (pa_cons (pe_callTy (call_list_dT rfl) (by rfl) B.list PyProof.Rows.boot_list (pa_cons (pv 4) pa_nil)) pa_nil)) pa_nil)))))))), ?_⟩
    refine rs_par ?_
    refine ⟨.ref a, rfl, .ref a, rfl, .int m, rfl, _, _, rfl, rfl, a, _, N, rfl, hP, by omega, by omega, by omega, fun r H1 r0 r1 s1 hp1 => ?_⟩
    obtain ⟨n, rfl⟩ : ∃ n : Nat, r = (n : Int) := ⟨r.toNat, by omega⟩
    have hn : n ≤ m := by omega
    refine ⟨a, n, N + 1, rfl, hp1, by omega, by omega, fun pl ns H2 hl hnd hnm s2 np1 epl hp2 => ?_⟩
    refine ⟨.ref a, rfl, a, 6, _, rfl, hp2, by omega, by decide, by decide, fun way H3 w0 w1 s3 hp3 => ⟨_, _, rfl, ?_⟩⟩
    -- ties = {}
    refine rs_set ?_
    intro d hd
    have npa : pl ≠ a := fun e => hp1.some (e ▸ np1)
    have hsx3 : SameX a H H3 := (s1.trans s2).trans s3
    have hd0 : H d = none := by
      cases e : H d with
      | none => rfl
      | some o =>
        by_cases hda : d = a
        · exact absurd hd (by rw [hda]; exact hp3.some)
        · have := hsx3 _ _ hda e
          rw [hd] at this; cases this
    have nda : d ≠ a := fun e => hp3.some (e ▸ hd)
    have epl3 := s3 _ _ npa epl
    have npd : pl ≠ d := ne_of_none epl3 hd
    have wb0 : WB a pl d ns H (N + 1 + 11 * n + 1) 0 (upd H3 d (.dT [])) := ⟨hsx3.trans (.of (same_upd hd)), hp3.same (same_upd hd), by rw [upd_ne npd]; exact epl3, npd, npa, nda, [], upd_same, List.nodup_nil, (fun _ z => nomatch z), Nat.le_refl _⟩
    generalize upd H3 d (.dT []) = H4 at wb0
    -- the laps
    have hns : ns.length ≤ 200 := by omega
    refine rs_rng 1 (((ns.map V.str).length : Int) - 1).toNat (fun H1 => H1 = H4)
      (fun i σ' H' => ∃ o5 o6, σ' = [some (.ref a), some (.int m), some (.ref pl), some (.int way), some (.ref d), o5, o6] ∧ WB a pl d ns H (N + 1 + 11 * n + 1 + 4 * i) (2 * i) H')
      (fun R hR => ⟨.ref pl, rfl, pl, ns.map V.str, rfl, .inl (sql_of wb0.2.2.1), 1, _, rfl, ⟨by decide, by decide, by rw [List.length_map]; omega, by rw [List.length_map]; omega⟩, hR _ rfl⟩) (fun H1 e => by subst e; exact ⟨_, _, rfl, wb0⟩) ?_ ?_
    · rintro i σ1 H5 hi ⟨o5, o6, rfl, wb⟩
      rw [List.length_map] at hi
      refine r_gname ?_
      have hi1 : i + 1 < ns.length := by omega
      have hN1 : N + 1 + 11 * n + 1 + 4 * i < 900000000 := by omega
      -- ties[_law_tie(places[at], places[j])] = True
      have tl : ∀ {N' c' : Nat} {H6 : Hp} {j : Nat} {r : Int} {Q' : Hp → Prop}, WB a pl d ns H N' c' H6 → c' ≤ 1000 → r = (j : Int) → j < i + 1 → (∀ Hn, WB a pl d ns H N' (c' + 1) Hn → Q' Hn) →
          ∃ v, atI (ns.map V.str) r = some (.str v) ∧ spTie [.str ns[i + 1], .str v] H6 (fun k H1 => ∃ d' Hn, V.ref d = .ref d' ∧ DPut H1 d' k (.bl true) Hn ∧ Q' Hn) E0 := fun {N' c' H6 j r Q'} wb' hc hr' hj q' =>
        ⟨_, at_ns hr' (by omega), put_tie wb' hd0 hc (List.getElem_mem _) (List.getElem_mem _) (Ne.symm (nodup_ne hnd (by omega) hi1 hj)) q'⟩
      have at1 : atI (ns.map V.str) (1 + (i : Int)) = some (.str ns[i + 1]) := at_ns (by omega) hi1
      refine if_any (fun Q1 q1 q2 => ?_) ?_ ?_
      · refine ⟨.int way, rfl, _, _, rfl, rfl, _, rfl, ite2 (fun c => q1) (fun c => ?_)⟩
        refine ⟨.int way, rfl, rfl, _, rfl, ite2 (fun c => ?_) (fun c => q2)⟩
        have qb : ∀ b, Q1 b H5 := fun b => by cases b; exact q2; exact q1
        exact ⟨_, rfl, _, _, rfl, rfl, _, rfl, qb _⟩
      · refine ⟨.ref a, rfl, by show 4 ≤ sizeLine; decide, fun l nl => .inl ⟨a, l, lapsD, _, rfl, wb.2.1.same (same_upd nl), by omega, sql_of upd_same, fun e => wb.2.1.some (e ▸ nl), by decide, by decide, fun ix v H6 hv s6 hp6 => ?_⟩⟩
        obtain ⟨x, rfl, hx⟩ := laps_int v (List.mem_of_getElem? hv)
        have wb6 := wb.step ((SameX.of (same_upd nl)).trans s6) hp6
        refine ⟨_, rfl, by omega, by omega, for_range (n := (x : Int).toNat) (fun j σ' H' => ∃ o6, σ' = [some (.ref a), some (.int m), some (.ref pl), some (.int way), some (.ref d), some (.int (1 + (i : Int))), o6] ∧ WB a pl d ns H (N + 1 + 11 * n + 1 + 4 * i + 1 + j) (2 * i + j) H') ⟨_, rfl, wb6⟩ ?_ ?_⟩
        · rintro j σ2 H7 hj ⟨o6', rfl, wb7⟩
          refine r_gname ?_
          refine ⟨.ref d, rfl, .ref pl, rfl, .int (1 + (i : Int)), rfl, pl, ns.map V.str, _, _, rfl, rfl, sql_of wb7.2.2.1, at1, .ref pl, rfl, .ref a, rfl, .int (1 + (i : Int)), rfl, a, _, _, rfl, wb7.2.1, by omega, by omega, by omega, fun r H8 r0 r1 s8 hp8 => ?_⟩
          obtain ⟨v, e1, e2⟩ := tl (j := r.toNat) (r := r) (wb7.step s8 hp8) (by omega) (by omega) (by omega) (fun Hn wn => (⟨_, rfl, wn.mono (by omega) (by omega)⟩ : ∃ o6, _ = [some (V.ref a), some (.int m), some (.ref pl), some (.int way), some (.ref d), some (.int (1 + (i : Int))), o6] ∧ WB a pl d ns H (N + 1 + 11 * n + 1 + 4 * i + 1 + (j + 1)) (2 * i + (j + 1)) Hn))
          exact ⟨pl, ns.map V.str, r, _, rfl, rfl, sql_of (wb7.step s8 hp8).2.2.1, e1, e2⟩
        · rintro σ2 H7 ⟨o6', rfl, wb7⟩
          exact ⟨_, _, rfl, wb7.mono (by omega) (by omega)⟩
      refine if_any (fun Q1 q1 q2 => ?_) ?_ ?_
      · have qb : ∀ b, Q1 b H5 := fun b => by cases b; exact q2; exact q1
        exact ⟨.int way, rfl, rfl, _, rfl, qb _⟩
      · refine ⟨.ref d, rfl, .ref pl, rfl, .int (1 + (i : Int)), rfl, pl, ns.map V.str, _, _, rfl, rfl, sql_of wb.2.2.1, at1, .ref pl, rfl, .ref a, rfl, .int (1 + (i : Int)), rfl, a, _, _, rfl, wb.2.1, by omega, by omega, by omega, fun r H8 r0 r1 s8 hp8 => ?_⟩
        obtain ⟨v, e1, e2⟩ := tl (j := r.toNat) (r := r) (wb.step s8 hp8) (by omega) (by omega) (by omega) (fun Hn wn => (⟨_, _, rfl, wn.mono (by omega) (by omega)⟩ : ∃ o5' o6', _ = [some (V.ref a), some (.int m), some (.ref pl), some (.int way), some (.ref d), o5', o6'] ∧ WB a pl d ns H (N + 1 + 11 * n + 1 + 4 * (i + 1)) (2 * (i + 1)) Hn))
        exact ⟨pl, ns.map V.str, r, _, rfl, rfl, sql_of (wb.step s8 hp8).2.2.1, e1, e2⟩
      refine if_any (fun Q1 q1 q2 => ?_) ?_ ?_
      · have qb : ∀ b, Q1 b H5 := fun b => by cases b; exact q2; exact q1
        exact ⟨.int way, rfl, rfl, _, rfl, qb _⟩
      · obtain ⟨v, e1, e2⟩ := tl (j := i) (r := 1 + (i : Int) - 1) wb (by omega) (by omega) (by omega) (fun Hn wn => (⟨_, _, rfl, wn.mono (by omega) (by omega)⟩ : ∃ o5' o6', _ = [some (V.ref a), some (.int m), some (.ref pl), some (.int way), some (.ref d), o5', o6'] ∧ WB a pl d ns H (N + 1 + 11 * n + 1 + 4 * (i + 1)) (2 * (i + 1)) Hn))
        exact ⟨.ref d, rfl, .ref pl, rfl, .int (1 + (i : Int)), rfl, pl, ns.map V.str, _, _, rfl, rfl, sql_of wb.2.2.1, at1, .ref pl, rfl, .int (1 + (i : Int)), rfl, _, _, rfl, rfl, pl, ns.map V.str, _, _, rfl, rfl, sql_of wb.2.2.1, e1, e2⟩
      · obtain ⟨v, e1, e2⟩ := tl (j := 0) (r := 0) wb (by omega) (by omega) (by omega) (fun Hn wn => (⟨_, _, rfl, wn.mono (by omega) (by omega)⟩ : ∃ o5' o6', _ = [some (V.ref a), some (.int m), some (.ref pl), some (.int way), some (.ref d), o5', o6'] ∧ WB a pl d ns H (N + 1 + 11 * n + 1 + 4 * (i + 1)) (2 * (i + 1)) Hn))
        exact ⟨.ref d, rfl, .ref pl, rfl, .int (1 + (i : Int)), rfl, pl, ns.map V.str, _, _, rfl, rfl, sql_of wb.2.2.1, at1, .ref pl, rfl, pl, ns.map V.str, _, _, rfl, rfl, sql_of wb.2.2.1, e1, e2⟩
    · rintro σ1 H5 ⟨o5, o6, rfl, wb⟩
      rw [List.length_map] at wb
      have wb1 : WB a pl d ns H (N + 3800) 800 H5 := wb.mono (by omega) (by omega)
      clear wb wb0
      refine rs_if_put (fun b H' => WB a pl d ns H (N + 3800) 800 H' ∧ (b = true → 2 < ns.length)) (WB a pl d ns H (N + 3800) 801) ?_ ?_ ?_ (fun D' H6 qn w6 => qn H6 (w6.1.mono (by omega) (by omega)))
      · intro Q1 q1
        refine ⟨.int way, rfl, by show 2 ≤ sizeLine; decide, fun t nt => ?_⟩
        have w6 : WB a pl d ns H (N + 3800) 800 (upd H5 t (.tup [.int 3, .int 5])) := wb1.step (.of (same_upd nt)) (wb1.2.1.same (same_upd nt))
        refine ⟨t, [.int 3, .int 5], rfl, .inr (sqt_of upd_same), rfl, rfl, _, rfl, ite2 (fun c => ?_) (fun c => q1 _ _ ⟨w6, fun z => nomatch z⟩)⟩
        refine ⟨.ref pl, rfl, pl, ns.map V.str, rfl, .inl (sql_of w6.2.2.1), _, _, rfl, rfl, _, rfl, q1 _ _ ⟨w6, fun z => ?_⟩⟩
        have := of_decide_eq_true z
        rw [List.length_map] at this
        omega
      · intro H6 w6
        obtain ⟨sx, hp6, h1, n1, n2, n3, ts, h2, h3, h4, h5⟩ := w6
        refine ⟨.ref pl, rfl, pl, ns, rfl, sql_of h1, Nat.le_of_lt (small1000 (by omega)), fun p1 np1 => ⟨.ref d, rfl, d, encT ts, rfl, .inl (by rw [upd_ne (ne_of_none h2 np1)]; exact h2), fun p2 bks np2 hbs => ?_⟩⟩
        have hk := keys_ties hbs
        have s12 := (same_upd (o := .lst ((sortS ns).map V.str)) np1).trans (same_upd (o := .lst (bks.map V.ref)) np2)
        refine ⟨p2, bks, ts, rfl, sql_of upd_same, paired_mono (fun q t e => sqt_of ((same_upd np2) _ _ e)) hk, Nat.le_of_lt (small1000 (by omega)), fun p3 qs' np3 hq => ⟨by show 2 ≤ sizeLine; decide, fun p4 np4 => ?_⟩⟩
        have s3 := same_upd (o := .lst (qs'.map V.ref)) np3
        have s4 := same_upd (o := .tup [.ref p1, .ref p3]) np4
        refine q p4 (sortS ns) (sortP ts) _ ⟨sortS_asc hnd, fun z hz => hnm z ((sortS_perm ns).mem_iff.mp hz), by rw [(sortS_perm ns).length_eq]; exact hns, sortP_asc h3, fun t ht => ?_, by rw [(sortP_perm ts).length_eq]; omega⟩ (by rw [(sortS_perm ns).length_eq]; omega) (by rw [(sortP_perm ts).length_eq]; omega) ?_ (sx.trans (.of ((s12.trans s3).trans s4))) ((hp6.same ((s12.trans s3).trans s4)).mono (by omega))
        · obtain ⟨m1, m2, m3⟩ := h4 t ((sortP_perm ts).mem_iff.mp ht)
          exact ⟨(sortS_perm ns).mem_iff.mpr m1, (sortS_perm ns).mem_iff.mpr m2, m3⟩
        · refine ⟨p1, p3, qs', upd_same, ?_, ?_, ?_⟩
          · exact s4 _ _ (s3 _ _ ((same_upd np2) _ _ upd_same))
          · exact s4 _ _ upd_same
          · exact hq _ (paired_mono (fun q t e => s4 _ _ (s3 _ _ ((same_upd np2) _ _ e))) hk)
      · intro D' H6 qn w6
        obtain ⟨w6, hlen⟩ := w6
        have hlen := hlen rfl
        have h0 : ns[0] ≠ ns[ns.length - 1] := nodup_ne hnd (by omega) (by omega) (by omega)
        exact ⟨.ref d, rfl, .ref pl, rfl, pl, ns.map V.str, _, _, rfl, rfl, sql_of w6.2.2.1, at_ns (j := 0) rfl (by omega), .ref pl, rfl, 1, rfl, pl, ns.map V.str, _, _, rfl, rfl, sql_of w6.2.2.1, at_last (by omega),
          put_tie (E := E0) w6 hd0 (by omega) (List.getElem_mem _) (List.getElem_mem _) h0 (fun Hn wn => qn Hn (wn.mono (by omega) (by omega)))⟩
end
end Hw

set_option Elab.async false
set_option linter.all false
set_option maxRecDepth 100000
set_option maxHeartbeats 4000000
namespace Hw
open PySem L2 PyProof.Rows
abbrev sText : Stmt := topS 29
def sBl : Str := Str.ofString " "
def sNl : Str := Str.ofString "\n"
def placesLine (ns : List Str) : Str := Txt.join sBl (Str.ofString "places" :: ns)
def tieLine (t : Tie) : Str := Txt.join sBl [Str.ofString "tie", t.1, t.2]
def webLines (ns : List Str) (ts : List Tie) : List Str := placesLine ns :: ts.map tieLine
def webText (ns : List Str) (ts : List Tie) : Str := Txt.join sNl (webLines ns ts)
theorem paired_get {α β : Type} {F : α → β → Prop} : ∀ {xs : List α} {ys : List β} {i : Nat} {x : α}, Paired F xs ys → xs[i]? = some x → ∃ y, ys[i]? = some y ∧ F x y
  | _, _, _, _, .nil, e => by simp at e
  | _, _, 0, _, .cons a _, e => by simp at e; subst e; exact ⟨_, rfl, a⟩
  | _, _, i + 1, y, .cons _ t, e => by
    obtain ⟨x, h1, h2⟩ := paired_get (i := i) t (by simpa using e)
    exact ⟨x, by simpa using h1, h2⟩
theorem join_len (y : Str) : ∀ ps : List Str, (Txt.join y ps).length ≤ (ps.map (·.length)).sum + ps.length * y.length
  | [] => by rw [TL.join_eq]; exact Nat.zero_le _
  | [p] => by rw [TL.join_eq]; simp [Str.join]
  | p :: q :: r => by
    have ih := join_len y (q :: r)
    rw [TL.join_eq] at ih ⊢
    have e : Str.join y (p :: q :: r) = p ++ y ++ Str.join y (q :: r) := rfl
    rw [e, app_len, app_len]
    simp only [List.map_cons, List.sum_cons, List.length_cons] at ih ⊢
    have : (r.length + 1 + 1) * y.length = (r.length + 1) * y.length + y.length := by rw [Nat.add_mul (r.length + 1) 1, Nat.one_mul]
    omega
theorem sum_le {ps : List Str} {b : Nat} (h : ∀ p ∈ ps, p.length ≤ b) : (ps.map (·.length)).sum ≤ ps.length * b := by
  induction ps with
  | nil => exact Nat.zero_le _
  | cons p ps ih =>
    have h1 := h p List.mem_cons_self
    have h2 := ih fun q hq => h q (List.mem_cons_of_mem _ hq)
    rw [List.map_cons, List.sum_cons, List.length_cons, Nat.add_mul, Nat.one_mul]
    omega
theorem OwnW.first {ns : List Str} {ts : List Tie} (o : OwnW ns ts) : ((Str.ofString "places" :: ns).map (·.length)).sum + (Str.ofString "places" :: ns).length * sBl.length ≤ 2000 := by
  have h := sum_le (ps := ns) (b := 8) fun p hp => (o.nm p hp).2.1
  have h1 := o.few
  have e1 : (Str.ofString "places").length = 6 := by decide +kernel
  have e2 : sBl.length = 1 := by decide +kernel
  rw [List.map_cons, List.sum_cons, List.length_cons, e1, e2]
  omega
theorem OwnW.tl {ns : List Str} {ts : List Tie} (o : OwnW ns ts) {t : Tie} (ht : t ∈ ts) : (([Str.ofString "tie", t.1, t.2] : List Str).map (·.length)).sum + ([Str.ofString "tie", t.1, t.2] : List Str).length * sBl.length ≤ 22 := by
  obtain ⟨h1, h2, _⟩ := o.tie t ht
  have a := (o.nm _ h1).2.1
  have b := (o.nm _ h2).2.1
  have e1 : (Str.ofString "tie").length = 3 := by decide +kernel
  have e2 : sBl.length = 1 := by decide +kernel
  simp only [List.map_cons, List.map_nil, List.sum_cons, List.sum_nil, List.length_cons, List.length_nil, e1, e2]
  omega
theorem OwnW.lines {ns : List Str} {ts : List Tie} (o : OwnW ns ts) : ((webLines ns ts).map (·.length)).sum + (webLines ns ts).length * sNl.length ≤ 16777216 := by
  have h1 : ∀ p ∈ webLines ns ts, p.length ≤ 2000 := by
    intro p hp
    rcases List.mem_cons.mp hp with rfl | hp
    · exact Nat.le_trans (join_len _ _) o.first
    · obtain ⟨t, ht, rfl⟩ := List.mem_map.mp hp
      exact Nat.le_trans (join_len _ _) (Nat.le_trans (o.tl ht) (by decide))
  have h2 := sum_le h1
  have e2 : sNl.length = 1 := by decide +kernel
  have e3 : (webLines ns ts).length ≤ 1001 := by
    show (ts.map tieLine).length + 1 ≤ 1001
    rw [List.length_map]; have := o.tfew; omega
  rw [e2]
  have : (webLines ns ts).length * 2000 ≤ 1001 * 2000 := Nat.mul_le_mul_right _ e3
  omega
def rJn (K : PySem.W.Frag) : V → List V → Hp → VK → Prop := fun x xs H Q => ∃ a p, ∃ ys : List Str, x = .str a ∧ xs = [.ref p] ∧ (SqL K H p (ys.map V.str) ∨ SqT K H p (ys.map V.str)) ∧ (ys.map (·.length)).sum + ys.length * a.length ≤ 16777216 ∧ Q (.str (Txt.join a ys)) H
def spText : Sp := fun vs H Q _ => ∃ p ns ts, vs = [.ref p] ∧ OwnW ns ts ∧ WebAt H p ns ts ∧ ∀ H', Same H H' → Q (.str (webText ns ts)) H'
section
variable {P : Program} {w : World} {K : PySem.W.Frag} {mg : Str → Option Value} {base : Heap}
theorem scText : FnScope ["own", "rows", "one", "other"] ["own"] (defScope sText) := ⟨rfl, rfl, rfl, by decide +kernel, rfl, by decide +kernel, by decide +kernel⟩
theorem ok_text {f : Addr} {fd : FuncData} {k : Nat} (F : Fun K "_law_web_text" "_law_web_text" sText f fd) (B : Blt mg) : FnOk P w K mg base CX0 (k + 1) f fd ["own"] spText := by
  refine F.ok scText (fun vs H Q E h => ?_) (fun cdv A outer s H vs Q E hr h => ?_)
  · obtain ⟨p, ns, ts, rfl, _⟩ := h
    rfl
  · obtain ⟨p, ns, ts, rfl, own, ⟨pl, tl, qs, e1, e2, e3, e4⟩, q⟩ := h
    refine ⟨_, pss_cons (ps_set (i := 1) scText.nd rfl (.inl rfl) (pe_lst (pa_cons (pe_join pe_str (pe_op op_cat (pe_lst (pa_cons pe_str pa_nil)) (pe_callTy call_list_of (by rfl) B.list PyProof.Rows.boot_list (pa_cons (pe_ix ix_tup (pv 0) pe_int (fun _ _ => rfl)) pa_nil)))) pa_nil)))
      (pss_one (ps_ret (pe_join pe_str (pe_op op_cat (pv 1) (pe_lc (own := [("one", 2), ("other", 3)]) (g := gTup _ 2 (gCons (gName 2) (gCons (gName 3) gNil))) (tt := tYes) (te := tM1 (rJn K) (tC (.str (Str.ofString " "))) (tLst (tCons (tC (.str (Str.ofString "tie"))) (tCons (tVar 2) (tCons (tVar 3) tNil))))) rfl scText.nd (pi_list (pe_ix ix_tup (pv 0) pe_int (fun _ _ => rfl)))
        (blkOk_by (N := ["own", "rows", "one", "other"]) (sc := defScope sText) (by decide +kernel)) (fun _ _ _ _ _ => pg_tup rfl (pgs_cons (pg_name (i := 2) scText.nd rfl (Or.inl rfl)) (pgs_cons (pg_name (i := 3) scText.nd rfl (Or.inl rfl)) pgs_nil))) (fun _ _ _ _ _ => pts_nil)
        (fun _ _ _ _ _ => pe_join pe_str (pe_lst (pa_cons pe_str (pa_cons (pv 2) (pa_cons (pv 3) pa_nil)))))))))), ?_⟩
    have l40 := own.few
    have l1000 := own.tfew
    have np : H p ≠ none := by rw [e1]; exact fun z => nomatch z
    refine rs_set ?_
    refine ⟨⟨_, rfl⟩, by show 1 ≤ sizeLine; decide, fun l1 n1 => ⟨.ref p, rfl, p, [.ref pl, .ref tl], 0, .ref pl, rfl, rfl, sqt_of ((same_upd n1) _ _ e1), rfl, pl, ns.map V.str, rfl, .inl (sql_of ((same_upd n1) _ _ e2)), fun l2 n2 =>
      ⟨l1, l2, [.str (Str.ofString "places")], ns.map V.str, rfl, rfl, (same_upd n2) _ _ upd_same, upd_same, Nat.le_of_lt (small1000 (by rw [List.length_map]; show 1 + _ ≤ 1000; omega)), fun l3 n3 => ?_⟩⟩⟩
    have s123 := ((same_upd n1).trans (same_upd (o := .lst (ns.map V.str)) n2)).trans (same_upd (o := .lst ([.str (Str.ofString "places")] ++ ns.map V.str)) n3)
    refine ⟨Str.ofString " ", l3, Str.ofString "places" :: ns, rfl, rfl, .inl (sql_of upd_same), Nat.le_trans own.first (by decide), by show 1 ≤ sizeLine; decide, fun l4 n4 => ?_⟩
    have s4 := s123.trans (same_upd (o := .lst [.str (Txt.join (Str.ofString " ") (Str.ofString "places" :: ns))]) n4)
    have el4 : (upd (upd (upd (upd H l1 (.lst [.str (Str.ofString "places")])) l2 (.lst (ns.map V.str))) l3 (.lst ([.str (Str.ofString "places")] ++ ns.map V.str))) l4 (.lst [.str (Txt.join (Str.ofString " ") (Str.ofString "places" :: ns))])) l4 = some (.lst [.str (placesLine ns)]) := upd_same
    generalize hG : (upd (upd (upd (upd H l1 (.lst [.str (Str.ofString "places")])) l2 (.lst (ns.map V.str))) l3 (.lst ([.str (Str.ofString "places")] ++ ns.map V.str))) l4 (.lst [.str (Txt.join (Str.ofString " ") (Str.ofString "places" :: ns))])) = H4 at s4 el4 ⊢
    refine ⟨⟨_, rfl⟩, .ref l4, rfl, .ref p, rfl, p, [.ref pl, .ref tl], 1, .ref tl, rfl, rfl, sqt_of (s4 _ _ e1), rfl, tl, rfl, ⟨_, sql_of (s4 _ _ e3)⟩, fun D nD => lc_list (xs := qs.map V.ref) (fun i H' => Same H4 H' ∧ H' D = some (.lst ((ts.take i).map fun t => .str (tieLine t)))) ⟨same_upd nD, upd_same⟩ (fun i H' _ h => sql_of (h.1 _ _ (s4 _ _ e3))) ?_ ?_⟩
    · rintro i x H' hx ⟨sx, eD⟩
      obtain ⟨q', hq', rfl⟩ : ∃ q', qs[i]? = some q' ∧ x = .ref q' := by
        rw [List.getElem?_map] at hx
        cases hh : qs[i]? with
        | none => rw [hh] at hx; cases hx
        | some q' => rw [hh] at hx; exact ⟨q', rfl, (Option.some.inj hx).symm⟩
      obtain ⟨t, ht, et⟩ := paired_get e4 hq'
      refine ⟨q', [.str t.1, .str t.2], rfl, sqt_of (sx _ _ (s4 _ _ et)), rfl, _, [.str t.2], rfl, _, [], rfl, rfl, rfl, r_yes ?_⟩
      have hi : i < ts.length := (List.getElem?_eq_some_iff.mp ht).1
      refine ⟨⟨_, rfl⟩, .str t.1, rfl, .str t.2, rfl, by show 3 ≤ sizeLine; decide, fun l nl => ⟨Str.ofString " ", l, [Str.ofString "tie", t.1, t.2], rfl, rfl, .inl (sql_of upd_same), Nat.le_trans (own.tl (List.mem_of_getElem? ht)) (by decide), _, (same_upd nl) _ _ eD, small1000 (by rw [List.length_map, List.length_take]; omega), ?_, ?_⟩⟩
      · intro b o e
        have := sx _ _ e
        rw [upd_ne (ne_of_none e nD), upd_ne (ne_of_none this nl)]
        exact this
      · rw [upd_same, List.take_succ, ht, List.map_append]; rfl
    · rintro H' ⟨sx, eD⟩
      have hlen : (qs.map V.ref).length = ts.length := by rw [List.length_map]; exact Paired.length e4
      rw [hlen, List.take_length] at eD
      refine ⟨l4, D, [.str (placesLine ns)], _, rfl, rfl, sx _ _ el4, eD, (by rw [List.length_map]; show 1 + ts.length ≤ sizeLine; rw [sizeLine_eq]; omega), fun l5 n5 => ?_⟩
      refine ⟨Str.ofString "\n", l5, webLines ns ts, rfl, rfl, .inl (sql_of (by rw [upd_same]; unfold webLines; rw [List.map_cons, List.map_map]; rfl)), own.lines, ?_⟩
      exact q _ ((s4.trans sx).trans (same_upd n5))
end
end Hw

set_option Elab.async false
set_option linter.all false
set_option maxRecDepth 100000
set_option maxHeartbeats 4000000
namespace Hw
open PySem L2 PyProof.Rows
/-! the rows of neighbours -/
def nbr (ts : List Tie) (n : Str) : List Str := ts.flatMap fun t => (if t.1 = n then [t.2] else []) ++ (if t.2 = n then [t.1] else [])
theorem nbr_len (ts : List Tie) (n : Str) : (nbr ts n).length ≤ 2 * ts.length := by
  induction ts with
  | nil => exact Nat.zero_le _
  | cons t ts ih =>
    have e : nbr (t :: ts) n = ((if t.1 = n then [t.2] else []) ++ (if t.2 = n then [t.1] else [])) ++ nbr ts n := by simp [nbr]
    rw [e, List.length_append, List.length_append, List.length_cons]
    have h1 : (if t.1 = n then [t.2] else []).length ≤ 1 := by split <;> simp
    have h2 : (if t.2 = n then [t.1] else []).length ≤ 1 := by split <;> simp
    omega
theorem nbr_mem {ns : List Str} {ts : List Tie} (h : ∀ t ∈ ts, t.1 ∈ ns ∧ t.2 ∈ ns ∧ strLt t.1 t.2 = true) {n m : Str} (hm : m ∈ nbr ts n) : m ∈ ns := by
  obtain ⟨t, ht, hm⟩ := List.mem_flatMap.mp hm
  obtain ⟨h1, h2, _⟩ := h t ht
  rcases List.mem_append.mp hm with hm | hm
  · split at hm
    · rw [List.mem_singleton.mp hm]; exact h2
    · cases hm
  · split at hm
    · rw [List.mem_singleton.mp hm]; exact h1
    · cases hm
theorem valV_names {g : Str → V} {ns : List Str} (w : Str) : valV (ns.map fun z => ((Sum.inr z : Key), g z)) (Sum.inr w) = if w ∈ ns then some (g w) else none := by
  induction ns with
  | nil => exact valV_nil
  | cons z ns ih =>
    rw [List.map_cons]
    by_cases h : z = w
    · subst h
      rw [valV_pos rfl, if_pos List.mem_cons_self]
    · rw [valV_neg (fun e => h (Sum.inr.inj e)), ih]
      by_cases hm : w ∈ ns
      · rw [if_pos hm, if_pos (List.mem_cons_of_mem _ hm)]
      · rw [if_neg hm, if_neg (fun e => by rcases List.mem_cons.mp e with rfl | e; exact h rfl; exact hm e)]
/-- a dict at d of lists, one for each name -/
structure NearL (f : Str → Addr) (H : Hp) (d : Addr) (ns : List Str) (L : Str → List Str) : Prop where
  dict : H d = some (.dK (ns.map fun n => ((Sum.inr n : Key), V.ref (f n))))
  lst : ∀ n ∈ ns, H (f n) = some (.lst ((L n).map V.str))
  inj : ∀ m ∈ ns, ∀ n ∈ ns, f m = f n → m = n
theorem NearL.get {f : Str → Addr} {H : Hp} {d : Addr} {ns : List Str} {L : Str → List Str} (w : NearL f H d ns L) {n : Str} (h : n ∈ ns) : DGet H d (.str n) (some (.ref (f n))) := by
  have := DGet.k (k := Sum.inr n) w.dict
  rw [valV_names (g := fun n => V.ref (f n)), if_pos h] at this
  exact this
theorem NearL.keep {f : Str → Addr} {H H' : Hp} {d : Addr} {ns : List Str} {L : Str → List Str} (w : NearL f H d ns L) (s : Same H H') : NearL f H' d ns L :=
  ⟨s _ _ w.dict, fun n hn => s _ _ (w.lst n hn), w.inj⟩
theorem NearL.congr {f : Str → Addr} {H : Hp} {d : Addr} {ns : List Str} {L M : Str → List Str} (w : NearL f H d ns L) (h : ∀ n ∈ ns, L n = M n) : NearL f H d ns M :=
  ⟨w.dict, fun n hn => by rw [← h n hn]; exact w.lst n hn, w.inj⟩
theorem NearL.push {f : Str → Addr} {H : Hp} {d : Addr} {ns : List Str} {L : Str → List Str} (w : NearL f H d ns L) {x y : Str} (hx : x ∈ ns) : NearL f (upd H (f x) (.lst ((L x).map V.str ++ [.str y]))) d ns (fun n => if n = x then L n ++ [y] else L n) := by
  refine ⟨?_, fun n hn => ?_, w.inj⟩
  · rw [upd_ne (ne_of w.dict (w.lst x hx) (fun z => nomatch z))]; exact w.dict
  · by_cases h : n = x
    · subst h
      rw [upd_same, if_pos rfl, List.map_append]; rfl
    · rw [upd_ne (fun e => h (w.inj n hn x hx e)), if_neg h]; exact w.lst n hn
theorem nbr_snoc (ts : List Tie) (t : Tie) (n : Str) : nbr (ts ++ [t]) n = nbr ts n ++ ((if t.1 = n then [t.2] else []) ++ (if t.2 = n then [t.1] else [])) := by simp [nbr]
theorem nbr_push {ts : List Tie} {t : Tie} (h : t.1 ≠ t.2) (n : Str) : (if n = t.2 then (if n = t.1 then nbr ts n ++ [t.2] else nbr ts n) ++ [t.1] else (if n = t.1 then nbr ts n ++ [t.2] else nbr ts n)) = nbr (ts ++ [t]) n := by
  rw [nbr_snoc]
  by_cases h1 : n = t.1
  · have h2 : n ≠ t.2 := fun e => h (h1.symm.trans e)
    rw [if_neg h2, if_pos h1, if_pos h1.symm, if_neg (Ne.symm h2)]; simp
  · by_cases h2 : n = t.2
    · rw [if_pos h2, if_neg h1, if_neg (Ne.symm h1), if_pos h2.symm]; simp
    · rw [if_neg h2, if_neg h1, if_neg (Ne.symm h1), if_neg (Ne.symm h2)]; simp
theorem mergeK_new : ∀ {more kvs : List (Key × V)}, ((kvs ++ more).map (·.1)).Nodup → mergeK kvs more = kvs ++ more
  | [], kvs, _ => by simp [mergeK]
  | p :: more, kvs, h => by
    have hn : valV kvs p.1 = none := by
      unfold valV
      rw [List.find?_eq_none.mpr]
      · rfl
      · intro q hq hc
        have e := of_decide_eq_true hc
        rw [List.map_append, List.nodup_append] at h
        exact h.2.2 q.1 (List.mem_map.mpr ⟨q, hq, rfl⟩) p.1 (List.mem_map.mpr ⟨p, List.mem_cons_self, rfl⟩) e
    have ih := mergeK_new (more := more) (kvs := kvs ++ [p]) (by rw [List.append_assoc]; exact h)
    show mergeK (putK kvs p.1 p.2) more = _
    rw [putK_new _ hn]
    exact ih.trans (by simp)
end Hw

set_option Elab.async false
set_option linter.all false
set_option maxRecDepth 100000
set_option maxHeartbeats 4000000
namespace Hw
open PySem L2 PyProof.Rows
abbrev sNear : Stmt := topS 30
abbrev TieL (H : Hp) (q : Addr) (t : Tie) : Prop := H q = some (.tup [.str t.1, .str t.2])
def spNear : Sp := fun vs H Q _ => ∃ (p tl : Addr) (ns : List Str) (ts : List Tie) (qs : List Addr), vs = [.ref p, .ref tl] ∧ OwnW ns ts ∧ H p = some (.lst (ns.map V.str)) ∧ H tl = some (.lst (qs.map V.ref)) ∧ Paired (TieL H) qs ts ∧
  ∀ d f H', Same H H' → NearL f H' d ns (nbr ts) → H d = none → (∀ n ∈ ns, H (f n) = none) → Q (.ref d) H'
theorem nodup_take {ns : List Str} (h : ns.Nodup) {i : Nat} {x : Str} (hx : ns[i]? = some x) : x ∉ ns.take i := by
  intro hm
  obtain ⟨j, hj, e⟩ := List.mem_iff_getElem.mp hm
  rw [List.length_take] at hj
  obtain ⟨hi, rfl⟩ := List.getElem?_eq_some_iff.mp hx
  rw [List.getElem_take] at e
  exact nodup_ne h (by omega) hi (by omega) e
/-- the rows while they are made -/
def NearUp (H0 : Hp) (D : Addr) (ns : List Str) (f : Str → Addr) (H : Hp) : Prop := Same H0 H ∧ (∀ n ∈ ns, H (f n) = some (.lst []) ∧ H0 (f n) = none ∧ f n ≠ D) ∧ ∀ m ∈ ns, ∀ n ∈ ns, f m = f n → m = n
theorem NearUp.keep {H0 H H' : Hp} {D : Addr} {ns : List Str} {f : Str → Addr} (w : NearUp H0 D ns f H) (s : Same H H') : NearUp H0 D ns f H' := ⟨w.1.trans s, fun n hn => ⟨s _ _ (w.2.1 n hn).1, (w.2.1 n hn).2⟩, w.2.2⟩
theorem NearUp.put {H0 H : Hp} {D : Addr} {ns : List Str} {f : Str → Addr} {o : HO} (w : NearUp H0 D ns f H) (hD : H0 D = none) : NearUp H0 D ns f (upd H D o) :=
  ⟨fun b u e => by rw [upd_ne (ne_of_none e hD)]; exact w.1 _ _ e, fun n hn => ⟨by rw [upd_ne (w.2.1 n hn).2.2]; exact (w.2.1 n hn).1, (w.2.1 n hn).2⟩, w.2.2⟩
theorem NearUp.new {H0 H : Hp} {D l : Addr} {ns : List Str} {f : Str → Addr} {x : Str} (w : NearUp H0 D ns f H) (hx : x ∉ ns) (nl : H l = none) (hl : l ≠ D) : NearUp H0 D (ns ++ [x]) (fun n => if n = x then l else f n) (upd H l (.lst [])) := by
  have hf : ∀ n ∈ ns, (if n = x then l else f n) = f n := fun n hn => if_neg fun e => hx (by rw [← e]; exact hn)
  have hxl : (if x = x then l else f x) = l := if_pos rfl
  refine ⟨w.1.trans (same_upd nl), fun n hn => ?_, fun m hm n hn e => ?_⟩
  · rcases List.mem_append.mp hn with hn | hn
    · dsimp only
      rw [hf n hn]
      exact ⟨(same_upd nl) _ _ (w.2.1 n hn).1, (w.2.1 n hn).2⟩
    · rw [List.mem_singleton.mp hn]
      dsimp only
      rw [hxl]
      exact ⟨upd_same, w.1.free nl, hl⟩
  · have e : (if m = x then l else f m) = (if n = x then l else f n) := e
    have ne : ∀ n ∈ ns, f n ≠ l := fun n hn z => by
      have := (w.2.1 n hn).1
      rw [z, nl] at this; cases this
    rcases List.mem_append.mp hm with hm | hm <;> rcases List.mem_append.mp hn with hn | hn
    · rw [hf m hm, hf n hn] at e; exact w.2.2 m hm n hn e
    · rw [List.mem_singleton.mp hn, hf m hm, hxl] at e; exact absurd e (ne m hm)
    · rw [List.mem_singleton.mp hm, hf n hn, hxl] at e; exact absurd e.symm (ne n hn)
    · rw [List.mem_singleton.mp hm, List.mem_singleton.mp hn]
theorem NearUp.done {H0 H : Hp} {D d : Addr} {ns : List Str} {f : Str → Addr} (w : NearUp H0 D ns f H) (hd : H d = some (.dK (ns.map fun n => ((Sum.inr n : Key), V.ref (f n))))) : NearL f H d ns (nbr []) :=
  ⟨hd, fun n hn => (w.2.1 n hn).1, w.2.2⟩
/-- one tie more -/
theorem tie_push {H0 H : Hp} {d : Addr} {ns : List Str} {f : Str → Addr} {ts : List Tie} {t : Tie} (s : Same H0 H) (w : NearL f H d ns (nbr ts)) (h0 : ∀ n ∈ ns, H0 (f n) = none) (h1 : t.1 ∈ ns) (h2 : t.2 ∈ ns) (hne : t.1 ≠ t.2) :
    ∃ L1, NearL f (upd H (f t.1) (.lst ((nbr ts t.1).map V.str ++ [.str t.2]))) d ns L1 ∧ L1 t.2 = nbr ts t.2 ∧
      Same H0 (upd (upd H (f t.1) (.lst ((nbr ts t.1).map V.str ++ [.str t.2]))) (f t.2) (.lst ((nbr ts t.2).map V.str ++ [.str t.1]))) ∧
      NearL f (upd (upd H (f t.1) (.lst ((nbr ts t.1).map V.str ++ [.str t.2]))) (f t.2) (.lst ((nbr ts t.2).map V.str ++ [.str t.1]))) d ns (nbr (ts ++ [t])) := by
  have w1 := w.push (y := t.2) h1
  have e2 : (if t.2 = t.1 then nbr ts t.2 ++ [t.2] else nbr ts t.2) = nbr ts t.2 := if_neg (Ne.symm hne)
  have w2 := w1.push (y := t.1) h2
  rw [e2] at w2
  refine ⟨_, w1, e2, fun b o e => ?_, w2.congr fun n _ => nbr_push hne n⟩
  rw [upd_ne (ne_of_none e (h0 _ h2)), upd_ne (ne_of_none e (h0 _ h1))]
  exact s _ _ e
theorem near_turn {K : PySem.W.Frag} {D' : Ends} {i2 i3 i4 : Nat} {σ : L2.St} {H0 H : Hp} {d : Addr} {ns : List Str} {f : Str → Addr} {ts : List Tie} {t : Tie} (v2 : σ[i2]? = some (some (.ref d))) (v3 : σ[i3]? = some (some (.str t.1))) (v4 : σ[i4]? = some (some (.str t.2)))
    (s : Same H0 H) (w : NearL f H d ns (nbr ts)) (h0 : ∀ n ∈ ns, H0 (f n) = none) (h1 : t.1 ∈ ns) (h2 : t.2 ∈ ns) (hne : t.1 ≠ t.2) (hl : ts.length ≤ 100000) (fin : ∀ H', Same H0 H' → NearL f H' d ns (nbr (ts ++ [t])) → D'.nx σ H') :
    tSeq (tDrop (tBM K "list" rAppend (tDGet (tVar i2) (tVar i3)) (tCons (tVar i4) tNil))) (tDrop (tBM K "list" rAppend (tDGet (tVar i2) (tVar i4)) (tCons (tVar i3) tNil))) D' σ H := by
  obtain ⟨L1, w1, eL, s2, w2⟩ := tie_push s w h0 h1 h2 hne
  have q2 := w1.lst t.2 h2
  rw [eL] at q2
  have l1 := nbr_len ts t.1
  have l2 := nbr_len ts t.2
  refine rs_bm ⟨.ref d, v2, .str t.1, v3, d, .ref (f t.1), rfl, w.get h1, .inl ⟨rfl, _, sql_of (w.lst _ h1)⟩, .str t.2, v4, f t.1, _, _, rfl, rfl, w.lst _ h1, by rw [List.length_map, sizeLine_eq]; omega, ?_⟩
  exact ⟨.ref d, v2, .str t.2, v4, d, .ref (f t.2), rfl, w1.get h2, .inl ⟨rfl, _, sql_of q2⟩, .str t.1, v3, f t.2, _, _, rfl, rfl, q2, by rw [List.length_map, sizeLine_eq]; omega, fin _ s2 w2⟩
theorem rs_list {K : PySem.W.Frag} {te : TE} {g : TG} {tb u : TS} {D : Ends} {σ : L2.St} {H : Hp} (a : Addr) (xs : List V) (ha : ∀ Q : VK, Q (.ref a) H → te σ H Q) (Pv : Nat → L2.St → Hp → Prop) (h0 : Pv 0 σ H) (hl : ∀ i σ H, i ≤ xs.length → Pv i σ H → SqL K H a xs)
    (hs : ∀ i x σ H, xs[i]? = some x → Pv i σ H → g x σ H fun σ2 H2 => tb { D with nx := Pv (i + 1), ct := Pv (i + 1), bk := u D } σ2 H2) (hd : ∀ σ H, Pv xs.length σ H → u D σ H) : tSeq (tFor (iList K te) g tb) u D σ H :=
  ha _ ⟨a, rfl, ⟨xs, hl 0 σ H (Nat.zero_le _) h0⟩, for_list (D := { D with nx := u D }) Pv h0 hl hs hd⟩
theorem rs_tup {K : PySem.W.Frag} {te : TE} {g : TG} {tb u : TS} {D : Ends} {σ : L2.St} {H : Hp} (a : Addr) (xs : List V) (ha : ∀ Q : VK, Q (.ref a) H → te σ H Q) (Pv : Nat → L2.St → Hp → Prop) (h0 : Pv 0 σ H) (hl : ∀ i σ H, i ≤ xs.length → Pv i σ H → SqT K H a xs)
    (hs : ∀ i x σ H, xs[i]? = some x → Pv i σ H → g x σ H fun σ2 H2 => tb { D with nx := Pv (i + 1), ct := Pv (i + 1), bk := u D } σ2 H2) (hd : ∀ σ H, Pv xs.length σ H → u D σ H) : tSeq (tFor (iTup K te) g tb) u D σ H :=
  ha _ ⟨a, rfl, ⟨xs, hl 0 σ H (Nat.zero_le _) h0⟩, for_tup (D := { D with nx := u D }) Pv h0 hl hs hd⟩
theorem map_get {α : Type} {g : α → V} {xs : List α} {i : Nat} {x : V} (h : (xs.map g)[i]? = some x) : ∃ z, xs[i]? = some z ∧ x = g z := by
  rw [List.getElem?_map] at h
  cases hh : xs[i]? with
  | none => rw [hh] at h; cases h
  | some z => rw [hh] at h; exact ⟨z, rfl, (Option.some.inj h).symm⟩
theorem take_snoc {α : Type} {xs : List α} {i : Nat} {x : α} (h : xs[i]? = some x) : xs.take (i + 1) = xs.take i ++ [x] := by rw [List.take_succ, h]; rfl
theorem paired_in {α β : Type} {F G : α → β → Prop} : ∀ {xs : List α} {ys : List β}, (∀ x y, y ∈ ys → F x y → G x y) → Paired F xs ys → Paired G xs ys
  | _, _, _, .nil => .nil
  | _, _, h, .cons a t => .cons (h _ _ List.mem_cons_self a) (paired_in (fun x y hy => h x y (List.mem_cons_of_mem _ hy)) t)
theorem paired_map {α β γ : Type} {F : α → γ → Prop} {g : β → γ} : ∀ {xs : List α} {ys : List β}, Paired (fun x y => F x (g y)) xs ys → Paired F xs (ys.map g)
  | _, _, .nil => .nil
  | _, _, .cons a t => .cons a (paired_map t)
section
variable {P : Program} {w : World} {K : PySem.W.Frag} {mg : Str → Option Value} {base : Heap}
theorem scNear : FnScope ["places", "ties", "near", "one", "other", "name"] ["places", "ties"] (defScope sNear) := ⟨rfl, rfl, rfl, by decide +kernel, rfl, by decide +kernel, by decide +kernel⟩
theorem ok_near {f : Addr} {fd : FuncData} {k : Nat} (F : Fun K "_law_near" "_law_near" sNear f fd) (bd : mg "dict" = none) : FnOk P w K mg base CX0 (k + 1) f fd ["places", "ties"] spNear := by
  refine F.ok scNear (fun vs H Q E h => ?_) (fun cdv A outer s H vs Q E hr h => ?_)
  · obtain ⟨p, tl, ns, ts, qs, rfl, _⟩ := h
    rfl
  · obtain ⟨p, tl, ns, ts, qs, rfl, own, e1, e3, e4, q⟩ := h
    have hu := hu_of hr
    refine ⟨_, pss_cons (ps_set (i := 2) scNear.nd rfl (.inl rfl) (pe_callTy (call_dictP rfl) (by rfl) bd PyProof.Rows.boot_dict (pa_cons (pe_lc (own := [("name", 5)]) (g := gName 5) (tt := tYes) rfl scNear.nd (pi_list (pv 0))
        (blkOk_by (N := ["places", "ties", "near", "one", "other", "name"]) (sc := defScope sNear) (by decide +kernel)) (fun _ _ _ _ _ => pg_name (i := 5) scNear.nd rfl (Or.inl rfl)) (fun _ _ _ _ _ => pts_nil)
        (fun _ _ _ _ _ => pe_tup (pa_cons (pv 5) (pa_cons (pe_lst pa_nil) pa_nil)))) pa_nil)))
      (pss_cons (ps_for PassesOwn.never rfl (pi_list (pv 1)) (pg_tup rfl (pgs_cons (pg_name (i := 3) scNear.nd rfl (Or.inl rfl)) (pgs_cons (pg_name (i := 4) scNear.nd rfl (Or.inl rfl)) pgs_nil)))
        (pss_cons (ps_expr (pe_bm PySem.F.plainAttrs_list PySem.F.slot_list_append PySem.F.type_list_append mt_append (pe_dget hu (pv 2) (pv 3) (fun _ _ => rfl)) (pa_cons (pv 4) pa_nil)))
        (pss_one (ps_expr (pe_bm PySem.F.plainAttrs_list PySem.F.slot_list_append PySem.F.type_list_append mt_append (pe_dget hu (pv 2) (pv 4) (fun _ _ => rfl)) (pa_cons (pv 3) pa_nil))))))
      (pss_one (ps_ret (pv 2)))), ?_⟩
    have l40 := own.few
    have l1000 := own.tfew
    have hnd := own.asc.nodup
    refine rs_set ?_
    refine ⟨.ref p, rfl, p, rfl, ⟨_, sql_of e1⟩, fun D nD => lc_list (xs := ns.map V.str) (fun i H' => ∃ f tp, NearUp H D (ns.take i) f H' ∧ H' D = some (.lst (tp.map V.ref)) ∧ Paired (fun q n => H' q = some (.tup [.str n, .ref (f n)])) tp (ns.take i))
      ⟨fun _ => 0, [], ⟨same_upd nD, (fun _ z => nomatch z), (fun _ z => nomatch z)⟩, upd_same, .nil⟩ (fun i H' _ ⟨f, tp, w, _⟩ => sql_of (w.1 _ _ e1)) ?_ ?_⟩
    · rintro i x H' hx ⟨f, tp, w, eD, hp⟩
      obtain ⟨z, hz, rfl⟩ : ∃ z, ns[i]? = some z ∧ x = .str z := by
        rw [List.getElem?_map] at hx
        cases hh : ns[i]? with
        | none => rw [hh] at hx; cases hx
        | some z => rw [hh] at hx; exact ⟨z, rfl, (Option.some.inj hx).symm⟩
      have hi := (List.getElem?_eq_some_iff.mp hz).1
      have hzt := nodup_take hnd hz
      have et : ns.take (i + 1) = ns.take i ++ [z] := by rw [List.take_succ, hz]; rfl
      have htp : tp.length ≤ 200 := by
        rw [Paired.length hp, List.length_take]; omega
      refine ⟨rfl, r_yes ?_⟩
      refine ⟨.str z, rfl, Nat.zero_le _, fun l nl => ⟨by show 2 ≤ sizeLine; decide, fun q' nq => ?_⟩⟩
      have hl : l ≠ D := fun e => by rw [e, eD] at nl; cases nl
      have w1 := (w.new hzt nl hl).keep (same_upd (o := .tup [.str z, .ref l]) nq)
      have eD1 := (same_upd (o := .lst []) nl) _ _ eD
      have hqD : q' ≠ D := fun e => by rw [e, eD1] at nq; cases nq
      refine ⟨tp.map V.ref, (same_upd nq) _ _ eD1, small1000 (by rw [List.length_map]; omega), fun n => if n = z then l else f n, tp ++ [q'], by rw [et]; exact w1.put nD, by rw [upd_same, List.map_append]; rfl, ?_⟩
      rw [et]
      refine Paired.snoc (paired_in (fun q n hn e => ?_) hp) ?_
      · have ne : n ≠ z := fun e => hzt (by rw [← e]; exact hn)
        dsimp only
        rw [if_neg ne, upd_ne (ne_of e eD (fun z => nomatch z)), upd_ne (ne_of_none ((same_upd nl) _ _ e) nq)]
        exact (same_upd nl) _ _ e
      · dsimp only
        rw [if_pos rfl, upd_ne hqD, upd_same]
    · rintro H' ⟨f, tp, w, eD, hp⟩
      rw [List.length_map, List.take_length] at w hp
      refine ⟨D, tp, ns.map fun n => ((Sum.inr n : Key), V.ref (f n)), rfl, sql_of eD, paired_map (paired_mono (fun q n e => sqt_of e) hp), fun d nd => ?_⟩
      rw [mergeK_new (by rw [List.nil_append, List.map_map]; exact List.Pairwise.map _ (fun a b h e => h (Sum.inr.inj e)) hnd), List.nil_append]
      have w1 := w.keep (same_upd (o := .dK (ns.map fun n => ((Sum.inr n : Key), V.ref (f n)))) nd)
      have hd0 : H d = none := w.1.free nd
      have nl0 := w1.done upd_same
      have s0 := w1.1
      have hf0 : ∀ n ∈ ns, H (f n) = none := fun n hn => (w.2.1 n hn).2.1
      generalize (upd H' d (.dK (ns.map fun n => ((Sum.inr n : Key), V.ref (f n))))) = H1 at nl0 s0 ⊢
      clear w w1 hp eD
      refine rs_list tl (qs.map V.ref) (fun Q1 q1 => ⟨_, rfl, q1⟩) (fun i σ' H' => ∃ o3 o4, σ' = [some (.ref p), some (.ref tl), some (.ref d), o3, o4, none] ∧ Same H H' ∧ NearL f H' d ns (nbr (ts.take i)))
        ⟨_, _, rfl, s0, nl0⟩ (fun i σ' H' _ ⟨o3, o4, _, sx, _⟩ => sql_of (sx _ _ e3)) ?_ ?_
      · rintro i x σ2 H2 hx ⟨o3, o4, rfl, sx, nl⟩
        obtain ⟨q', hq', rfl⟩ := map_get hx
        obtain ⟨t, ht, et⟩ := paired_get e4 hq'
        obtain ⟨m1, m2, m3⟩ := own.tie t (List.mem_of_getElem? ht)
        refine ⟨q', [.str t.1, .str t.2], rfl, sqt_of (sx _ _ et), rfl, _, [.str t.2], rfl, _, [], rfl, rfl, ?_⟩
        refine near_turn (t := t) (ts := ts.take i) rfl rfl rfl sx nl hf0 m1 m2 (strLt_ne m3) (by rw [List.length_take]; omega) (fun H3 s3 n3 => ⟨_, _, rfl, s3, by rw [take_snoc ht]; exact n3⟩)
      · rintro σ2 H2 ⟨o3, o4, rfl, sx, nl⟩
        rw [List.length_map, Paired.length e4, List.take_length] at nl
        exact ⟨.ref d, rfl, q d f H2 sx nl hd0 hf0⟩
end
end Hw

set_option Elab.async false
set_option linter.all false
set_option maxRecDepth 100000
set_option maxHeartbeats 4000000
namespace Hw
open PySem L2 PyProof.Rows
abbrev AnyBlk (X : Cx) (scope : Scope) (R : Cx → Prop) : Prop := ∀ (s : Shared) (H : Hp) (C : Addr) (cl : List (Str × Addr)) (fp : List Addr), R (X.blk s H scope (compEnvC scope cl C X.env) fp)
section
variable {X : Cx}
theorem sw_dc {kx vx : Expr} {gs : List Comprehension} {scope : Scope} {pos py : Pos} {y : Str} {l : Nat} {env : Env} (h1 : env.scope.kind = .function) (h2 : env.scope.names.lookup y = some .local) (h3 : (py.line == pos.line) = true)
    (h4 : (scope.names.any fun (n, k) => n == y && (k == .local || k == .cell)) = false) : swapsWith (.DictComp kx vx gs scope pos) (some (.Name y py)) l env = pure true := by
  have a : env.blockKind = .function := by unfold Env.blockKind; rw [h1]; rfl
  have b : env.kindOf y = some .local := h2
  unfold swapsWith
  simp only [a, b, h4, Expr.pos, h3]
  rfl
/-- y = {k: v for ..}, stored while the block stands -/
theorem ps_setDc {i : Nat} {y : Str} {py pos spos : Pos} {kx vx tg iter : Expr} {ifs : List Expr} {scope : Scope} {own : List (Str × Nat)} {wi : TI} {g : TG} {tt : TT} {tk tv : TE} (calm : X.calm = true) (nd : X.N.Nodup) (hy : X.N[i]? = some y) (hyl : X.env.scope.names.lookup y = some .local)
    (sw : swapsWith (.DictComp kx vx [⟨tg, iter, ifs, 0⟩] scope pos) (some (.Name y py)) spos.line X.env = pure true) (walks : PI X tg iter wi) (blk : BlkOk X.N X.env.scope scope own)
    (target : AnyBlk X scope fun Y => PG Y tg g) (tests : AnyBlk X scope fun Y => PTs Y ifs tt) (keys : AnyBlk X scope fun Y => PE Y kx tk) (vals : AnyBlk X scope fun Y => PE Y vx tv) (hs : ∀ x, foldedSetIterable iter X.env x = pure x := by intro _; rfl) :
    PS X (.Assign [.Name y py] (.DictComp kx vx [⟨tg, iter, ifs, 0⟩] scope pos) spos) (tAsg (tDc wi g tt tk tv (own.map (·.2))) (gName i)) := by
  refine ⟨fun pins s σ H D I reading => ?_⟩
  rw [exec_Assign_Name_used _ _ _ _ sw]
  refine wpAny_bind (wpAny_standAt (wpAny_bind ?_))
  show wpAny _ X.A (do let _ ← comprehension (.DictComp kx vx [⟨tg, iter, ifs, 0⟩] scope pos) scope X.env (firstIterPos [⟨tg, iter, ifs, 0⟩] pos) newDict false (eval iter X.env) (some (assign (.Name y py) X.env))) _ _ s
  have reading' : tDc wi g tt tk tv (own.map (·.2)) σ H (fun x H1 => gName i x σ H1 D.nx) := reading
  refine wpAny_bind (thn (dc_core (Qf := fun _ s' => SP X pins D .next s') calm nd I walks blk target tests keys vals hs reading' ?_) fun _ s' done => wpAny_pure (wpAny_pure done))
  intro L C s' m H' I' q ns f
  show wpAny _ _ (assign (.Name y py) X.env (.ref L)) _ _ _
  refine wpAny_assign_Name (store_ok2 (v := V.ref L) I' nd hy (.inl hyl) rfl (fun s2 I2 put => ?_) (.inr hyl))
  obtain ⟨a, sb, ha⟩ := put
  obtain ⟨f0, f1, f2, f3, f4, f5⟩ := f
  have ne : C ≠ a := ha.elim (fun z => by rw [z]; exact f1) (fun z e => f4 y a z e.symm)
  exact ⟨m, ns.sameBut sb ne, fun h3 sb3 => ⟨_, H', I2.turned (t' := s2.toks) (fun b o hb e => (sb3.2 b hb).trans e) f0 f1 f3 f4 f5, q⟩⟩
end
end Hw

set_option Elab.async false
set_option linter.all false
set_option maxRecDepth 100000
set_option maxHeartbeats 4000000
namespace Hw
open PySem L2 PyProof.Rows
abbrev sTied : Stmt := topS 12
/-- places, ties as tuples, and what is told of them -/
structure FineW (ns : List Str) (ts : List Tie) : Prop where
  nd : ns.Nodup
  few : ns.length ≤ 200
  tie : ∀ t ∈ ts, t.1 ∈ ns ∧ t.2 ∈ ns ∧ strLt t.1 t.2 = true
  tfew : ts.length ≤ 100000
def spTied : Sp := fun vs H Q _ => ∃ (p tl : Addr) (ns : List Str) (ts : List Tie) (qs : List Addr), vs = [.ref p, .ref tl] ∧ FineW ns ts ∧ H p = some (.tup (ns.map V.str)) ∧ H tl = some (.tup (qs.map V.ref)) ∧ Paired (TieL H) qs ts ∧
  ∀ d f H', Same H H' → NearL f H' d ns (nbr ts) → H d = none → (∀ n ∈ ns, H (f n) = none) → Q (.ref d) H'
theorem putK_names {ns : List Str} {f : Str → Addr} {z : Str} {l : Addr} (h : z ∉ ns) : putK (ns.map fun n => ((Sum.inr n : Key), V.ref (f n))) (Sum.inr z) (V.ref l) = (ns ++ [z]).map fun n => ((Sum.inr n : Key), V.ref (if n = z then l else f n)) := by
  rw [putK_new _ (by rw [valV_names (g := fun n => V.ref (f n)), if_neg h]), List.map_append]
  congr 1
  · exact List.map_congr_left fun n hn => by rw [if_neg (fun e => h (by rw [← e]; exact hn))]
  · simp
section
variable {P : Program} {w : World} {K : PySem.W.Frag} {mg : Str → Option Value} {base : Heap}
theorem scTied : FnScope ["places", "ties", "tied", "one", "other", "place"] ["places", "ties"] (defScope sTied) := ⟨rfl, rfl, rfl, by decide +kernel, rfl, by decide +kernel, by decide +kernel⟩
theorem ok_tied {f : Addr} {fd : FuncData} {k : Nat} (F : Fun K "tied_by" "tied_by" sTied f fd) : FnOk P w K mg base CX0 (k + 1) f fd ["places", "ties"] spTied := by
  refine F.ok scTied (fun vs H Q E h => ?_) (fun cdv A outer s H vs Q E hr h => ?_)
  · obtain ⟨p, tl, ns, ts, qs, rfl, _⟩ := h
    rfl
  · obtain ⟨p, tl, ns, ts, qs, rfl, own, e1, e3, e4, q⟩ := h
    have hu := hu_of hr
    refine ⟨_, pss_cons (ps_setDc (i := 2) (own := [("place", 5)]) (g := gName 5) (tt := tYes) rfl scTied.nd rfl rfl (sw_dc rfl rfl rfl (by decide +kernel)) (pi_tup (pv 0))
        (blkOk_by (N := ["places", "ties", "tied", "one", "other", "place"]) (sc := defScope sTied) (by decide +kernel)) (fun _ _ _ _ _ => pg_name (i := 5) scTied.nd rfl (Or.inl rfl)) (fun _ _ _ _ _ => pts_nil)
        (fun _ _ _ _ _ => pv 5) (fun _ _ _ _ _ => pe_lst pa_nil))
      (pss_cons (ps_for PassesOwn.never rfl (pi_tup (pv 1)) (pg_tup rfl (pgs_cons (pg_name (i := 3) scTied.nd rfl (Or.inl rfl)) (pgs_cons (pg_name (i := 4) scTied.nd rfl (Or.inl rfl)) pgs_nil)))
        (pss_cons (ps_expr (pe_bm PySem.F.plainAttrs_list PySem.F.slot_list_append PySem.F.type_list_append mt_append (pe_dget hu (pv 2) (pv 3) (fun _ _ => rfl)) (pa_cons (pv 4) pa_nil)))
        (pss_one (ps_expr (pe_bm PySem.F.plainAttrs_list PySem.F.slot_list_append PySem.F.type_list_append mt_append (pe_dget hu (pv 2) (pv 4) (fun _ _ => rfl)) (pa_cons (pv 3) pa_nil))))))
      (pss_one (ps_ret (pv 2)))), ?_⟩
    have l40 := own.few
    have l1000 := own.tfew
    have hnd := own.nd
    refine rs_set ?_
    refine ⟨.ref p, rfl, p, rfl, ⟨_, sqt_of e1⟩, fun D nD => dc_tup (xs := ns.map V.str) (fun i H' => ∃ f, NearUp H D (ns.take i) f H' ∧ H' D = some (.dK ((ns.take i).map fun n => ((Sum.inr n : Key), V.ref (f n)))))
      ⟨fun _ => 0, ⟨same_upd nD, (fun _ z => nomatch z), (fun _ z => nomatch z)⟩, upd_same⟩ (fun i H' _ ⟨f, w, _⟩ => sqt_of (w.1 _ _ e1)) ?_ ?_⟩
    · rintro i x H' hx ⟨f, w, eD⟩
      obtain ⟨z, hz, rfl⟩ := map_get hx
      have hzt := nodup_take hnd hz
      refine ⟨rfl, r_yes ?_⟩
      refine ⟨.str z, rfl, Nat.zero_le _, fun l nl => ?_⟩
      have hl : l ≠ D := fun e => by rw [e, eD] at nl; cases nl
      have w1 := w.new hzt nl hl
      refine ⟨_, Sum.inr z, rfl, (same_upd nl) _ _ eD, small1000 (by rw [List.length_map, List.length_take]; omega), fun n => if n = z then l else f n, by rw [take_snoc hz]; exact w1.put nD, ?_⟩
      rw [upd_same, take_snoc hz, putK_names hzt]
    · rintro H1 ⟨f, w, eD⟩
      rw [List.length_map, List.take_length] at w eD
      have nl0 := w.done eD
      have s0 := w.1
      have hf0 : ∀ n ∈ ns, H (f n) = none := fun n hn => (w.2.1 n hn).2.1
      refine rs_tup tl (qs.map V.ref) (fun Q1 q1 => ⟨_, rfl, q1⟩) (fun i σ' H' => ∃ o3 o4, σ' = [some (.ref p), some (.ref tl), some (.ref D), o3, o4, none] ∧ Same H H' ∧ NearL f H' D ns (nbr (ts.take i)))
        ⟨_, _, rfl, s0, nl0⟩ (fun i σ' H' _ ⟨o3, o4, _, sx, _⟩ => sqt_of (sx _ _ e3)) ?_ ?_
      · rintro i x σ2 H2 hx ⟨o3, o4, rfl, sx, nl⟩
        obtain ⟨q', hq', rfl⟩ := map_get hx
        obtain ⟨t, ht, et⟩ := paired_get e4 hq'
        obtain ⟨m1, m2, m3⟩ := own.tie t (List.mem_of_getElem? ht)
        refine ⟨q', [.str t.1, .str t.2], rfl, sqt_of (sx _ _ et), rfl, _, [.str t.2], rfl, _, [], rfl, rfl, ?_⟩
        refine near_turn (t := t) (ts := ts.take i) rfl rfl rfl sx nl hf0 m1 m2 (strLt_ne m3) (by rw [List.length_take]; omega) (fun H3 s3 n3 => ⟨_, _, rfl, s3, by rw [take_snoc ht]; exact n3⟩)
      · rintro σ2 H2 ⟨o3, o4, rfl, sx, nl⟩
        rw [List.length_map, Paired.length e4, List.take_length] at nl
        exact ⟨.ref D, rfl, q D f H2 sx nl nD hf0⟩
end
end Hw

set_option Elab.async false
set_option linter.all false
set_option maxRecDepth 100000
set_option maxHeartbeats 4000000
namespace Hw
open PySem L2 PyProof.Rows
abbrev sIsName : Stmt := topS 4
theorem low_alpha : ∀ c, 97 ≤ c → c ≤ 122 → Unicode.isAlpha c = true ∧ Unicode.isLower c = true ∧ Unicode.isUpper c = false ∧ Unicode.isTitle c = false ∧ c < 128 := by
  have h : ((List.range 26).all fun i => Unicode.isAlpha (97 + i) && Unicode.isLower (97 + i) && !Unicode.isUpper (97 + i) && !Unicode.isTitle (97 + i)) = true := by decide +kernel
  intro c h1 h2
  have := List.all_eq_true.mp h (c - 97) (List.mem_range.mpr (by omega))
  rw [show 97 + (c - 97) = c by omega] at this
  simp only [Bool.and_eq_true, Bool.not_eq_true'] at this
  obtain ⟨⟨⟨a, b⟩, d⟩, e⟩ := this
  exact ⟨a, b, d, e, by omega⟩
theorem cps_mem {z : Str} {c : Nat} (h : c ∈ z.cps) : c ∈ z.cps.toList := by simpa using h
theorem nm_ascii {z : Str} (h : Nm z) : Txt.isascii z = true := by
  unfold Txt.isascii
  refine Array.all_eq_true_iff_forall_mem.mpr fun c hc => ?_
  have := h.2.2 c (cps_mem hc)
  exact decide_eq_true (by omega)
theorem nm_ne {z : Str} (h : Nm z) : ∃ c, c ∈ z.cps := by
  have h1 := h.1
  exact ⟨z.cps[0], Array.getElem_mem _⟩
theorem nm_alpha {z : Str} (h : Nm z) : Txt.isalpha z = true := by
  unfold Txt.isalpha
  rw [Bool.and_eq_true]
  refine ⟨?_, Array.all_eq_true_iff_forall_mem.mpr fun c hc => (low_alpha c (h.2.2 c (cps_mem hc)).1 (h.2.2 c (cps_mem hc)).2).1⟩
  have h1 := h.1
  exact decide_eq_true (by omega)
theorem nm_lower {z : Str} (h : Nm z) : Txt.islower z = true := by
  unfold Txt.islower
  obtain ⟨c, hc⟩ := nm_ne h
  have l := fun c (hc : c ∈ z.cps) => low_alpha c (h.2.2 c (cps_mem hc)).1 (h.2.2 c (cps_mem hc)).2
  rw [Bool.and_eq_true]
  refine ⟨Array.any_eq_true.mpr ?_, ?_⟩
  · obtain ⟨i, hi, rfl⟩ := Array.mem_iff_getElem.mp hc
    exact ⟨i, hi, (l _ hc).2.1⟩
  · rw [Bool.not_eq_true', Array.any_eq_false]
    intro i hi
    obtain ⟨_, _, a, b, _⟩ := l _ (Array.getElem_mem hi)
    rw [a, b]; decide
def spIsName : Sp := fun vs H Q _ => ∃ z, vs = [.str z] ∧ Nm z ∧ Q (.bl true) H
/-- more names of the built-ins -/
structure Blt3 (mg : Str → Option Value) : Prop where
  isi : mg "isinstance" = none
  str : mg "str" = none
  tuple : mg "tuple" = none
  all : mg "all" = none
  zip : mg "zip" = none
  enum : mg "enumerate" = none
  dict : mg "dict" = none
  sorted : mg "sorted" = none
  lnm : ∃ t, mg "LONGEST_NAME" = some (.int 8 t)
  mst : ∃ t, mg "MOST_PLACES" = some (.int 200 t)
section
variable {P : Program} {w : World} {K : PySem.W.Frag} {mg : Str → Option Value} {base : Heap}
theorem scIsName : FnScope ["value"] ["value"] (defScope sIsName) := ⟨rfl, rfl, rfl, by decide +kernel, rfl, by decide +kernel, by decide +kernel⟩
theorem ok_isname {f : Addr} {fd : FuncData} {k : Nat} (F : Fun K "is_name" "is_name" sIsName f fd) (B : Blt mg) (B3 : Blt3 mg) : FnOk P w K mg base CX0 (k + 1) f fd ["value"] spIsName := by
  refine F.ok scIsName (fun vs H Q E h => ?_) (fun cdv A outer s H vs Q E hr h => ?_)
  · obtain ⟨z, rfl, _⟩ := h
    rfl
  · obtain ⟨z, rfl, hz, q⟩ := h
    obtain ⟨t, gL⟩ := B3.lnm
    refine ⟨_, pss_one (ps_ret (pe_and (pe_callB call_isi (by rfl) B3.isi PyProof.Rows.boot_isinstance (pa_cons (pv 0) (pa_cons (pe_bltn (v := .ty "str") (by rfl) B3.str (by decide +kernel) rfl) pa_nil)))
      (pe_and (pe_cmpR op_le (pe_callB call_len_str (by rfl) B.len PySem.boot_len (pa_cons (pv 0) pa_nil)) (pe_glob (v := .int 8) (by rfl) gL ⟨_, rfl⟩) (nomark _))
      (pe_and (pe_m0 PySem.F.slot_str_isascii PySem.F.type_str_isascii mt_isascii (pv 0)) (pe_and (pe_m0 PySem.F.slot_str_isalpha PySem.F.type_str_isalpha mt_isalpha (pv 0)) (pe_one (pe_m0 PySem.F.slot_str_islower PySem.F.type_str_islower mt_islower (pv 0)))))))), ?_⟩
    refine ⟨.str z, rfl, .str z, .ty "str", .type "str", .type "str", true, rfl, .ty _, .base (.str z), kit_ty (by decide +kernel), true, rfl, ?_⟩
    refine ⟨.str z, rfl, z, rfl, Nat.le_of_lt (small1000 (by have := hz.2.1; omega)), _, _, rfl, rfl, true, congrArg V.bl (decide_eq_true (by have := hz.2.1; omega)), ?_⟩
    refine ⟨.str z, rfl, ⟨_, rfl⟩, z, rfl, rfl, trivial, true, congrArg V.bl (nm_ascii hz), ?_⟩
    refine ⟨.str z, rfl, ⟨_, rfl⟩, z, rfl, rfl, trivial, true, congrArg V.bl (nm_alpha hz), ?_⟩
    refine ⟨.str z, rfl, ⟨_, rfl⟩, z, rfl, rfl, trivial, ?_⟩
    rw [nm_lower hz]
    exact q
end
end Hw

set_option Elab.async false
set_option linter.all false
set_option maxRecDepth 100000
set_option maxHeartbeats 4000000
namespace Hw
open PySem L2 PyProof.Rows
abbrev sAsc : Stmt := topS 5
abbrev sArePl : Stmt := topS 16
def spAsc (K : PySem.W.Frag) : Sp := fun vs H Q _ => ∃ (p : Addr) (zs : List Str), vs = [.ref p] ∧ SqT K H p (zs.map V.str) ∧ Asc zs ∧ zs.length ≤ 1000 ∧ ∀ H', Same H H' → Q (.bl true) H'
theorem cut1 {xs : List V} : cutV xs (some 1) none = xs.drop 1 := by
  unfold cutV
  rw [show HT.sIx xs.length 0 (some 1) = min 1 xs.length from HT.sIx_nat _ 0 1, HT.sIx_none]
  have e : xs.drop (min 1 xs.length) = xs.drop 1 := by
    by_cases h : 1 ≤ xs.length
    · rw [Nat.min_eq_left h]
    · rw [Nat.min_eq_right (by omega), List.drop_of_length_le (Nat.le_refl _), List.drop_of_length_le (by omega)]
  rw [e]
  refine List.take_of_length_le ?_
  rw [List.length_drop]; omega
theorem sqT_same {K : PySem.W.Frag} {H H' : Hp} {p : Addr} {xs : List V} (h : SqT K H p xs) (s : Same H H') : SqT K H' p xs := by
  rcases h with (h | ⟨o, h⟩) | h
  · exact .inl (.inl (s _ _ h))
  · exact .inl (.inr ⟨o, s _ _ h⟩)
  · exact .inr h
theorem sqL_same {K : PySem.W.Frag} {H H' : Hp} {p : Addr} {xs : List V} (h : SqL K H p xs) (s : Same H H') : SqL K H' p xs := by
  rcases h with (h | ⟨o, h⟩) | h
  · exact .inl (.inl (s _ _ h))
  · exact .inl (.inr ⟨o, s _ _ h⟩)
  · exact .inr h
theorem asc_at {zs : List Str} (ha : Asc zs) {i : Nat} {x y : Str} (h1 : zs[i]? = some x) (h2 : zs[i + 1]? = some y) : x.cps.toList < y.cps.toList := by
  obtain ⟨p1, rfl⟩ := List.getElem?_eq_some_iff.mp h1
  obtain ⟨p2, rfl⟩ := List.getElem?_eq_some_iff.mp h2
  exact of_decide_eq_true (List.pairwise_iff_getElem.mp ha i (i + 1) p1 p2 (by omega))
theorem all_rep (n : Nat) : (List.replicate n true).all id = true := by
  rw [List.all_eq_true]
  intro x hx
  rw [(List.mem_replicate.mp hx).2]; rfl
section
variable {P : Program} {w : World} {K : PySem.W.Frag} {mg : Str → Option Value} {base : Heap}
theorem scAsc : FnScope ["values", "one", "other"] ["values"] (defScope sAsc) := ⟨rfl, rfl, rfl, by decide +kernel, rfl, by decide +kernel, by decide +kernel⟩
theorem ok_asc {f : Addr} {fd : FuncData} {k : Nat} (F : Fun K "ascends" "ascends" sAsc f fd) (B3 : Blt3 mg) : FnOk P w K mg base CX0 (k + 1) f fd ["values"] (spAsc K) := by
  refine F.ok scAsc (fun vs H Q E h => ?_) (fun cdv A outer s H vs Q E hr h => ?_)
  · obtain ⟨p, zs, rfl, _⟩ := h
    rfl
  · obtain ⟨p, zs, rfl, hp, ha, hl, q⟩ := h
    refine ⟨_, pss_one (ps_ret (pe_callB (cr_all rfl) (by rfl) B3.all PyProof.Rows.boot_all (pa_cons (pe_lc (own := [("one", 1), ("other", 2)]) (g := gTup _ 2 (gCons (gName 1) (gCons (gName 2) gNil))) (tt := tYes) rfl scAsc.nd
        (RZ.pi_zipA (by rfl) B3.zip (pa_cons (pv 0) (pa_cons (pe_slice sl_tupA (pv 0) (po_some pe_int) po_none) pa_nil))) (blkOk_by (N := ["values", "one", "other"]) (sc := defScope sAsc) (by decide +kernel))
        (fun _ _ _ _ _ => pg_tup rfl (pgs_cons (pg_name (i := 1) scAsc.nd rfl (Or.inl rfl)) (pgs_cons (pg_name (i := 2) scAsc.nd rfl (Or.inl rfl)) pgs_nil))) (fun _ _ _ _ _ => pts_nil) (fun _ _ _ _ _ => pe_cmpR op_lt_str (pv 1) (pv 2) (nomark _))) pa_nil))), ?_⟩
    refine ⟨.ref p, rfl, .ref p, rfl, 1, rfl, p, zs.map V.str, rfl, hp, fun hw => ?_, fun hw b nb => ?_⟩
    · obtain ⟨H1, eH1⟩ : ∃ H1, H1 = H := ⟨H, rfl⟩
      have s1 : Same H H1 := by rw [eH1]; exact Same.refl H
      have hb : SqT K H1 p ((zs.map V.str).drop 1) := by
        have e0 : (zs.map V.str).length = 0 := by
          have := hw.1
          rw [show HT.sIx (zs.map V.str).length 0 (some 1) = min 1 (zs.map V.str).length from HT.sIx_nat _ 0 1] at this
          omega
        rw [List.length_eq_zero_iff.mp e0] at hp ⊢
        rw [eH1]; exact hp
      rw [← eH1]
      refine ⟨p, _, zs.map V.str, (zs.map V.str).drop 1, rfl, .inr ⟨sqT_same hp s1, hb, fun D hD => lc_it (walk_zipT rfl) (fun i H' => Same H H' ∧ Same H1 H' ∧ H' D = some (.lst ((List.replicate i true).map V.bl))) ⟨s1.trans (same_upd hD), same_upd hD, upd_same⟩ (fun i H' _ h => ⟨sqT_same hp h.1, sqT_same hb h.2.1⟩) ?_ ?_⟩⟩
      · rintro i x H' H'' hi ⟨sx, sx1, eD⟩ ⟨T, x1, x2, rfl, nT, rfl, g1, g2⟩
        obtain ⟨z1, h1, rfl⟩ := map_get g1
        have g2 : ((zs.map V.str).drop 1)[i]? = some x2 := g2
        rw [List.getElem?_drop] at g2
        obtain ⟨z2, h2, rfl⟩ := map_get g2
        refine ⟨T, [.str z1, .str z2], rfl, sqt_of upd_same, rfl, _, [.str z2], rfl, _, [], rfl, rfl, rfl, r_yes ?_⟩
        have hlt : z1.cps.toList < z2.cps.toList := asc_at ha h1 (by rw [Nat.add_comm] at h2; exact h2)
        have hi1 := (List.getElem?_eq_some_iff.mp h1).1
        refine ⟨.str z1, rfl, .str z2, rfl, z1, z2, rfl, rfl, _, (same_upd nT) _ _ eD, small1000 (by rw [List.length_map, List.length_replicate]; omega), ?_, ?_, ?_⟩
        · intro b o e
          rw [upd_ne (ne_of_none (s1 _ _ e) hD)]
          exact (same_upd nT) _ _ (sx _ _ e)
        · intro b o e
          rw [upd_ne (ne_of_none e hD)]
          exact (same_upd nT) _ _ (sx1 _ _ e)
        · rw [upd_same, decide_eq_true hlt, List.replicate_succ', List.map_append]; rfl
      · rintro H' ⟨sx, sx1, eD⟩
        refine ⟨D, _, rfl, sql_of eD, ?_⟩
        rw [all_rep]
        exact q H' sx
    · have s1 : Same H (upd H b (.tup (cutV (zs.map V.str) (some 1) none))) := same_upd nb
      have hb : SqT K (upd H b (.tup (cutV (zs.map V.str) (some 1) none))) b ((zs.map V.str).drop 1) := by
        rw [cut1] 
        exact sqt_of upd_same
      generalize (upd H b (.tup (cutV (zs.map V.str) (some 1) none))) = H1 at s1 hb ⊢
      refine ⟨p, _, zs.map V.str, (zs.map V.str).drop 1, rfl, .inr ⟨sqT_same hp s1, hb, fun D hD => lc_it (walk_zipT rfl) (fun i H' => Same H H' ∧ Same H1 H' ∧ H' D = some (.lst ((List.replicate i true).map V.bl))) ⟨s1.trans (same_upd hD), same_upd hD, upd_same⟩ (fun i H' _ h => ⟨sqT_same hp h.1, sqT_same hb h.2.1⟩) ?_ ?_⟩⟩
      · rintro i x H' H'' hi ⟨sx, sx1, eD⟩ ⟨T, x1, x2, rfl, nT, rfl, g1, g2⟩
        obtain ⟨z1, h1, rfl⟩ := map_get g1
        have g2 : ((zs.map V.str).drop 1)[i]? = some x2 := g2
        rw [List.getElem?_drop] at g2
        obtain ⟨z2, h2, rfl⟩ := map_get g2
        refine ⟨T, [.str z1, .str z2], rfl, sqt_of upd_same, rfl, _, [.str z2], rfl, _, [], rfl, rfl, rfl, r_yes ?_⟩
        have hlt : z1.cps.toList < z2.cps.toList := asc_at ha h1 (by rw [Nat.add_comm] at h2; exact h2)
        have hi1 := (List.getElem?_eq_some_iff.mp h1).1
        refine ⟨.str z1, rfl, .str z2, rfl, z1, z2, rfl, rfl, _, (same_upd nT) _ _ eD, small1000 (by rw [List.length_map, List.length_replicate]; omega), ?_, ?_, ?_⟩
        · intro b o e
          rw [upd_ne (ne_of_none (s1 _ _ e) hD)]
          exact (same_upd nT) _ _ (sx _ _ e)
        · intro b o e
          rw [upd_ne (ne_of_none e hD)]
          exact (same_upd nT) _ _ (sx1 _ _ e)
        · rw [upd_same, decide_eq_true hlt, List.replicate_succ', List.map_append]; rfl
      · rintro H' ⟨sx, sx1, eD⟩
        refine ⟨D, _, rfl, sql_of eD, ?_⟩
        rw [all_rep]
        exact q H' sx
end
end Hw

set_option Elab.async false
set_option linter.all false
set_option maxRecDepth 100000
set_option maxHeartbeats 4000000
namespace Hw
open PySem L2 PyProof.Rows
abbrev sIsTie : Stmt := topS 17
def spArePl : Sp := fun vs H Q _ => ∃ (p : Addr) (zs : List Str), vs = [.ref p] ∧ H p = some (.tup (zs.map V.str)) ∧ Asc zs ∧ (∀ z ∈ zs, Nm z) ∧ zs.length ≤ 200 ∧ ∀ H', Same H H' → Q (.bl true) H'
/-- a tie of known places -/
def spIsTie : Sp := fun vs H Q _ => ∃ (p d : Addr) (ns : List Str) (t : Tie), vs = [.ref p, .ref d] ∧ H p = some (.tup [.str t.1, .str t.2]) ∧ H d = some (.dK (ns.map fun z => ((Sum.inr z : Key), V.bl true))) ∧ t.1 ∈ ns ∧ t.2 ∈ ns ∧ strLt t.1 t.2 = true ∧ ∀ H', Same H H' → Q (.bl true) H'
section
variable {P : Program} {w : World} {K : PySem.W.Frag} {mg : Str → Option Value} {base : Heap}
theorem scArePl : FnScope ["value", "place"] ["value"] (defScope sArePl) := ⟨rfl, rfl, rfl, by decide +kernel, rfl, by decide +kernel, by decide +kernel⟩
theorem ok_arepl {f fN fA : Addr} {fd fdN fdA : FuncData} {k : Nat} (F : Fun K "are_places" "are_places" sArePl f fd) (B : Blt mg) (B3 : Blt3 mg) (GN : FnOk P w K mg base CX0 k fN fdN ["value"] spIsName) (gN : mg "is_name" = some (.ref fN)) (kN : PySem.W.keepIn K (.ref fN) = true) (bN : Binds K fdN ["value"] [])
    (GA : FnOk P w K mg base CX0 k fA fdA ["values"] (spAsc K)) (gA : mg "ascends" = some (.ref fA)) (kA : PySem.W.keepIn K (.ref fA) = true) (bA : Binds K fdA ["values"] []) : FnOk P w K mg base CX0 (k + 1) f fd ["value"] spArePl := by
  refine F.ok scArePl (fun vs H Q E h => ?_) (fun cdv A outer s H vs Q E hr h => ?_)
  · obtain ⟨p, zs, rfl, _⟩ := h
    rfl
  · obtain ⟨p, zs, rfl, hp, ha, hn, hl, q⟩ := h
    obtain ⟨t, gL⟩ := B3.mst
    refine ⟨_, pss_one (ps_ret (pe_and (pe_callB call_isi (by rfl) B3.isi PyProof.Rows.boot_isinstance (pa_cons (pv 0) (pa_cons (pe_bltn (v := .ty "tuple") (by rfl) B3.tuple (by decide +kernel) rfl) pa_nil)))
      (pe_and (pe_cmpR op_le (pe_callB call_len_seq (by rfl) B.len PySem.boot_len (pa_cons (pv 0) pa_nil)) (pe_glob (v := .int 200) (by rfl) gL ⟨_, rfl⟩) (nomark _))
      (pe_and (pe_callB (cr_all rfl) (by rfl) B3.all PyProof.Rows.boot_all (pa_cons (pe_lc (own := [("place", 1)]) (g := gName 1) (tt := tYes) rfl scArePl.nd (pi_tup (pv 0)) (blkOk_by (N := ["value", "place"]) (sc := defScope sArePl) (by decide +kernel))
          (fun _ _ _ _ _ => pg_name (i := 1) scArePl.nd rfl (Or.inl rfl)) (fun _ _ _ _ _ => pts_nil) (fun _ _ _ _ _ => pe_call GN hr (by rfl) gN kN bN .nil pass0 (pa_cons (pv 1) pa_nil))) pa_nil))
        (pe_one (pe_call GA hr (by rfl) gA kA bA .nil pass0 (pa_cons (pv 0) pa_nil))))))), ?_⟩
    refine ⟨.ref p, rfl, .ref p, .ty "tuple", .type "tuple", .type "tuple", true, rfl, .ty _, .base (.tup hp), kit_ty (by decide +kernel), true, rfl, ?_⟩
    refine ⟨.ref p, rfl, p, zs.map V.str, rfl, .inr (sqt_of hp), _, _, rfl, rfl, true, congrArg V.bl (decide_eq_true (by rw [List.length_map]; omega)), ?_⟩
    refine ⟨.ref p, rfl, p, rfl, ⟨_, sqt_of hp⟩, fun D hD => lc_tup (xs := zs.map V.str) (fun i H' => Same H H' ∧ H' D = some (.lst ((List.replicate i true).map V.bl))) ⟨same_upd hD, upd_same⟩ (fun i H' _ h => sqt_of (h.1 _ _ hp)) ?_ ?_⟩
    · rintro i x H' hx ⟨sx, eD⟩
      obtain ⟨z, hz, rfl⟩ := map_get hx
      have hi := (List.getElem?_eq_some_iff.mp hz).1
      refine ⟨rfl, r_yes ?_⟩
      refine ⟨.str z, rfl, z, rfl, hn z (List.mem_of_getElem? hz), _, eD, small1000 (by rw [List.length_map, List.length_replicate]; omega), ?_, ?_⟩
      · intro b o e
        rw [upd_ne (ne_of_none e hD)]
        exact sx _ _ e
      · rw [upd_same, List.replicate_succ', List.map_append]; rfl
    · rintro H' ⟨sx, eD⟩
      refine ⟨D, _, rfl, sql_of eD, true, congrArg V.bl (all_rep _), ?_⟩
      exact ⟨.ref p, rfl, p, zs, rfl, sqt_of (sx _ _ hp), ha, by omega, fun H'' s'' => q H'' (sx.trans s'')⟩
theorem scIsTie : FnScope ["value", "known", "place"] ["value", "known"] (defScope sIsTie) := ⟨rfl, rfl, rfl, by decide +kernel, rfl, by decide +kernel, by decide +kernel⟩
theorem ok_istie {f : Addr} {fd : FuncData} {k : Nat} (F : Fun K "is_tie" "is_tie" sIsTie f fd) (B : Blt mg) (B3 : Blt3 mg) : FnOk P w K mg base CX0 (k + 1) f fd ["value", "known"] spIsTie := by
  refine F.ok scIsTie (fun vs H Q E h => ?_) (fun cdv A outer s H vs Q E hr h => ?_)
  · obtain ⟨p, d, ns, t, rfl, _⟩ := h
    rfl
  · obtain ⟨p, d, ns, t, rfl, hp, hd, m1, m2, hlt, q⟩ := h
    have hu := hu_of hr
    refine ⟨_, pss_one (ps_ret (pe_and (pe_callB call_isi (by rfl) B3.isi PyProof.Rows.boot_isinstance (pa_cons (pv 0) (pa_cons (pe_bltn (v := .ty "tuple") (by rfl) B3.tuple (by decide +kernel) rfl) pa_nil)))
      (pe_and (pe_cmpR op_eq (pe_callB call_len_seq (by rfl) B.len PySem.boot_len (pa_cons (pv 0) pa_nil)) pe_int (nomark _))
      (pe_and (pe_callB (cr_all rfl) (by rfl) B3.all PyProof.Rows.boot_all (pa_cons (pe_lc (own := [("place", 2)]) (g := gName 2) (tt := tYes) (te := tAndV (tCB (rIsi K) (tCons (tVar 2) (tCons (tC (.ty "str")) tNil))) (tDIn (tVar 2) (tVar 1))) rfl scIsTie.nd (pi_tup (pv 0)) (blkOk_by (N := ["value", "known", "place"]) (sc := defScope sIsTie) (by decide +kernel))
          (fun _ _ _ _ _ => pg_name (i := 2) scIsTie.nd rfl (Or.inl rfl)) (fun _ _ _ _ _ => pts_nil)
          (fun _ _ _ _ _ => pe_and (pe_callB call_isi (by rfl) B3.isi PyProof.Rows.boot_isinstance (pa_cons (pv 2) (pa_cons (pe_bltn (v := .ty "str") (by rfl) B3.str (by decide +kernel) rfl) pa_nil))) (pe_one (pe_cmp (pc_din hu (pv 2) (pv 1)) rfl)))) pa_nil))
        (pe_one (pe_cmpR op_lt_str (pe_ix ix_tup (pv 0) pe_int (fun _ _ => rfl)) (pe_ix ix_tup (pv 0) pe_int (fun _ _ => rfl)) (nomark _))))))), ?_⟩
    have hin : ∀ z ∈ ns, (valV (ns.map fun z => ((Sum.inr z : Key), V.bl true)) (Sum.inr z)).isSome = true := fun z hz => by rw [valV_names (g := fun _ => V.bl true), if_pos hz]; rfl
    refine ⟨.ref p, rfl, .ref p, .ty "tuple", .type "tuple", .type "tuple", true, rfl, .ty _, .base (.tup hp), kit_ty (by decide +kernel), true, rfl, ?_⟩
    refine ⟨.ref p, rfl, p, [.str t.1, .str t.2], rfl, .inr (sqt_of hp), rfl, true, rfl, ?_⟩
    refine ⟨.ref p, rfl, p, rfl, ⟨_, sqt_of hp⟩, fun D hD => lc_tup (xs := [.str t.1, .str t.2]) (fun i H' => Same H H' ∧ H' D = some (.lst ((List.replicate i true).map V.bl))) ⟨same_upd hD, upd_same⟩ (fun i H' _ h => sqt_of (h.1 _ _ hp)) ?_ ?_⟩
    · rintro i x H' hx ⟨sx, eD⟩
      obtain ⟨z, hz, rfl⟩ : ∃ z ∈ ns, x = .str z := by
        rcases List.mem_cons.mp (List.mem_of_getElem? hx) with rfl | hx
        · exact ⟨_, m1, rfl⟩
        · exact ⟨_, m2, List.mem_singleton.mp hx⟩
      have hi : i < 2 := (List.getElem?_eq_some_iff.mp hx).1
      refine ⟨rfl, r_yes ?_⟩
      refine ⟨.str z, rfl, .str z, .ty "str", .type "str", .type "str", true, rfl, .ty _, .base (.str z), kit_ty (by decide +kernel), true, rfl, ?_⟩
      refine ⟨.str z, rfl, .ref d, rfl, d, _, rfl, DGet.k (k := Sum.inr z) (sx _ _ hd), _, eD, small1000 (by rw [List.length_map, List.length_replicate]; omega), ?_, ?_⟩
      · intro b o e
        rw [upd_ne (ne_of_none e hD)]
        exact sx _ _ e
      · rw [hin z hz, upd_same, List.replicate_succ', List.map_append]; rfl
    · rintro H' ⟨sx, eD⟩
      refine ⟨D, _, rfl, sql_of eD, true, congrArg V.bl (all_rep _), ?_⟩
      have e' := sx _ _ hp
      refine ⟨.ref p, rfl, p, [.str t.1, .str t.2], 0, .str t.1, rfl, rfl, sqt_of e', rfl, .ref p, rfl, p, [.str t.1, .str t.2], 1, .str t.2, rfl, rfl, sqt_of e', rfl, t.1, t.2, rfl, rfl, ?_⟩
      have e : decide (t.1.cps.toList < t.2.cps.toList) = true := hlt
      rw [e]
      exact q H' sx
end
end Hw

set_option Elab.async false
set_option linter.all false
set_option maxRecDepth 100000
set_option maxHeartbeats 4000000
namespace Hw
open PySem L2 PyProof.Rows
abbrev sReadT : Stmt := topS 15
abbrev sReadW : Stmt := topS 14
/-! a text joined, split -/
theorem nm_no {z : Str} (h : Nm z) {c : Nat} (hc : c < 97) : c ∉ z.cps.toList := fun hm => by have := (h.2.2 c hm).1; omega
theorem split_bl {ps : List Str} (hne : ps ≠ []) (h : ∀ p ∈ ps, 32 ∉ p.cps.toList) : Txt.split (Txt.join sBl ps) sBl = ps := TL.split_join (s := 32) (S := []) rfl (by decide +kernel) hne h
theorem split_nl {ps : List Str} (hne : ps ≠ []) (h : ∀ p ∈ ps, 10 ∉ p.cps.toList) : Txt.split (Txt.join sNl ps) sNl = ps := TL.split_join (s := 10) (S := []) rfl (by decide +kernel) hne h
theorem nmtie {ns : List Str} {ts : List Tie} (nm : ∀ z ∈ ns, Nm z) {t : Tie} (h1 : t.1 ∈ ns) (h2 : t.2 ∈ ns) : Txt.split (tieLine t) sBl = [Str.ofString "tie", t.1, t.2] := by
  refine split_bl (by simp) fun p hp => ?_
  rcases List.mem_cons.mp hp with rfl | hp
  · decide +kernel
  · rcases List.mem_cons.mp hp with rfl | hp
    · exact nm_no (nm _ h1) (by decide)
    · rw [List.mem_singleton.mp hp]; exact nm_no (nm _ h2) (by decide)
theorem tieLine_len {ns : List Str} (nm : ∀ z ∈ ns, Nm z) {t : Tie} (h1 : t.1 ∈ ns) (h2 : t.2 ∈ ns) : (tieLine t).length ≤ 22 := by
  refine Nat.le_trans (join_len _ _) ?_
  have a := (nm _ h1).2.1
  have b := (nm _ h2).2.1
  have e1 : (Str.ofString "tie").length = 3 := by decide +kernel
  have e2 : sBl.length = 1 := by decide +kernel
  simp only [List.map_cons, List.map_nil, List.sum_cons, List.sum_nil, List.length_cons, List.length_nil, e1, e2]
  omega
/-- of two ties the later one is not ahead of the earlier one -/
theorem le_tie {t u : Tie} (h : ltP u t = true) : Ob.lexAt (fun j => [t.1, t.2].getD j (Str.ofString "") == [u.1, u.2].getD j (Str.ofString "")) (fun j => !strLt ([u.1, u.2].getD j (Str.ofString "")) ([t.1, t.2].getD j (Str.ofString ""))) (decide ([t.1, t.2].length ≤ [u.1, u.2].length)) 0 (min [t.1, t.2].length [u.1, u.2].length) = false := by
  show (if (t.1 == u.1) = true then (if (t.2 == u.2) = true then _ else !strLt u.2 t.2) else !strLt u.1 t.1) = false
  rw [ltP_iff] at h
  rcases h with h | ⟨e, h⟩
  · have ne : ¬ (t.1 == u.1) = true := by
      intro e
      rw [beq_iff_eq.mp e, strLt_irr] at h; cases h
    rw [if_neg ne, h]; rfl
  · have ne : ¬ (t.2 == u.2) = true := by
      intro e
      rw [beq_iff_eq.mp e, strLt_irr] at h; cases h
    rw [if_pos (beq_iff_eq.mpr e.symm), if_neg ne, h]; rfl
theorem nil_or_snoc {α : Type} (l : List α) : l = [] ∨ ∃ m x, l = m ++ [x] := by
  rcases List.eq_nil_or_concat l with h | ⟨m, x, h⟩
  · exact .inl h
  · exact .inr ⟨m, x, by rw [h, List.concat_eq_append]⟩
def spReadT : Sp := fun vs H Q _ => ∃ (l p : Addr) (z0 : Str) (ns : List Str) (ts : List Tie), vs = [.ref l, .ref p] ∧ H l = some (.lst ((z0 :: ts.map tieLine).map V.str)) ∧ H p = some (.tup (ns.map V.str)) ∧ FineW ns ts ∧ (∀ z ∈ ns, Nm z) ∧ AscP ts ∧
  ∀ t qs H', Same H H' → H' t = some (.tup (qs.map V.ref)) → Paired (TieL H') qs ts → Q (.ref t) H'
theorem rs_enumK {K : PySem.W.Frag} {wi : TI} {g : TG} {tb u : TS} {D : Ends} {σ : L2.St} {H : Hp} (k : Int) (xs : List V) (P0 : Addr → Hp → Prop) (Pv : Addr → Nat → L2.St → Hp → Prop) (hw : ∀ R : It → Hp → Prop, (∀ a H1, P0 a H1 → R (IteK K a k) H1) → wi σ H R) (h0 : ∀ a H1, P0 a H1 → Pv a 0 σ H1)
    (hG : ∀ a j σ H, j ≤ xs.length → Pv a j σ H → SqL K H a xs) (turn : ∀ a j x σ H T, j < xs.length → Pv a j σ H → H T = none → xs[j]? = some x → g (.ref T) σ (upd H T (.tup [.int (k + (j : Nat)), x])) fun σ2 H2 => tb { D with nx := Pv a (j + 1), ct := Pv a (j + 1), bk := u D } σ2 H2)
    (done : ∀ a σ H, Pv a xs.length σ H → u D σ H) : tSeq (tFor wi g tb) u D σ H :=
  hw _ fun a H1 p => for_it (D := { D with nx := u D }) walk_enumK (Pv a) (h0 a H1 p) (hG a) (fun j x σ H H' hj hp ⟨T, xa, ya, ex, nT, eH, e1, e2⟩ => by
    subst ex eH
    obtain rfl : V.int (k + (j : Nat)) = xa := Option.some.inj e1
    exact turn a j ya σ H T hj hp nT e2) (done a)
theorem rs_no {t : TT} {A u : TS} {D : Ends} {σ : L2.St} {H : Hp} (h : t σ H fun b H1 => if b = true then A { D with nx := u D } σ H1 else u D σ H1) : tSeq (tIfS t A tNext) u D σ H := h
section
variable {P : Program} {w : World} {K : PySem.W.Frag} {mg : Str → Option Value} {base : Heap}
theorem scReadT : FnScope ["lines", "places", "known", "ties", "number", "line", "words", "tie", "place"] ["lines", "places"] (defScope sReadT) := ⟨rfl, rfl, rfl, by decide +kernel, rfl, by decide +kernel, by decide +kernel⟩
theorem ok_readt {f fT : Addr} {fd fdT : FuncData} {k : Nat} (F : Fun K "read_ties" "read_ties" sReadT f fd) (B : Blt mg) (B3 : Blt3 mg) (GT : FnOk P w K mg base CX0 k fT fdT ["value", "known"] spIsTie) (gT : mg "is_tie" = some (.ref fT)) (kT : PySem.W.keepIn K (.ref fT) = true) (bT : Binds K fdT ["value", "known"] []) :
    FnOk P w K mg base CX0 (k + 1) f fd ["lines", "places"] spReadT := by
  refine F.ok scReadT (fun vs H Q E h => ?_) (fun cdv A outer s H vs Q E hr h => ?_)
  · obtain ⟨l, p, z0, ns, ts, rfl, _⟩ := h
    rfl
  · obtain ⟨l, p, z0, ns, ts, rfl, el, ep, own, nm, asc, q⟩ := h
    have hu := hu_of hr
    have hu0 := hr.units0
    refine ⟨_, pss_cons (ps_setDc (i := 2) (own := [("place", 8)]) (g := gName 8) (tt := tYes) rfl scReadT.nd rfl rfl (sw_dc rfl rfl rfl (by decide +kernel)) (pi_tup (pv 1))
        (blkOk_by (N := ["lines", "places", "known", "ties", "number", "line", "words", "tie", "place"]) (sc := defScope sReadT) (by decide +kernel)) (fun _ _ _ _ _ => pg_name (i := 8) scReadT.nd rfl (Or.inl rfl)) (fun _ _ _ _ _ => pts_nil)
        (fun _ _ _ _ _ => pv 8) (fun _ _ _ _ _ => pe_bl))
      (pss_cons (ps_set (i := 3) scReadT.nd rfl (.inl rfl) (pe_lst pa_nil))
      (pss_cons (ps_for PassesOwn.never rfl (pi_enumK (by rfl) B3.enum (pa_cons (pe_slice sl_list (pv 0) (po_some pe_int) po_none) pa_nil) (pk_cons pe_int pk_nil)) (pg_tup rfl (pgs_cons (pg_name (i := 4) scReadT.nd rfl (Or.inl rfl)) (pgs_cons (pg_name (i := 5) scReadT.nd rfl (Or.inl rfl)) pgs_nil)))
        (pss_cons (ps_set (i := 6) scReadT.nd rfl (.inl rfl) (pe_split (pv 5) pe_str))
        (pss_cons (ps_set (i := 7) scReadT.nd rfl (.inl rfl) (pe_callTy call_tuple_of (by rfl) B3.tuple PyProof.Rows.boot_tuple (pa_cons (pe_slice sl_list (pv 6) (po_some pe_int) po_none) pa_nil)))
        (pss_cons (ps_if (PW.pt (pw_or (pt_cmpR op_ne (pe_ix ix_list (pv 6) pe_int (fun _ _ => rfl)) pe_str (nomark _)) (pw_or1 (pt_not (pt_val (pe_call GT hr (by rfl) gT kT bT .nil pass0 (pa_cons (pv 7) (pa_cons (pv 2) pa_nil)))))))) (pss_one ps_never) pss_nil)
        (pss_cons (ps_if (PW.pt (pw_and (pt_truth (pv 3) (by intro _; rfl)) (pw_and1 (pt_cmpR (op_leS hu0) (pv 7) (pe_ix ix_list (pv 3) (pe_un un_neg pe_int) (fun _ _ => rfl)) (nomark _))))) (pss_one ps_never) pss_nil)
        (pss_one (ps_expr (pe_bm PySem.F.plainAttrs_list PySem.F.slot_list_append PySem.F.type_list_append mt_append (pv 3) (pa_cons (pv 7) pa_nil)))))))))
      (pss_one (ps_ret (pe_callTy call_tuple_of (by rfl) B3.tuple PyProof.Rows.boot_tuple (pa_cons (pv 3) pa_nil)))))), ?_⟩
    have l200 := own.few
    have lts := own.tfew
    have hnd := own.nd
    refine rs_set ?_
    refine ⟨.ref p, rfl, p, rfl, ⟨_, sqt_of ep⟩, fun D nD => dc_tup (xs := ns.map V.str) (fun i H' => Same H H' ∧ H' D = some (.dK ((ns.take i).map fun n => ((Sum.inr n : Key), V.bl true)))) ⟨same_upd nD, upd_same⟩ (fun i H' _ h => sqt_of (h.1 _ _ ep)) ?_ ?_⟩
    · rintro i x H' hx ⟨sx, eD⟩
      obtain ⟨z, hz, rfl⟩ := map_get hx
      have hzt := nodup_take hnd hz
      refine ⟨rfl, r_yes ?_⟩
      refine ⟨.str z, rfl, _, Sum.inr z, rfl, eD, small1000 (by rw [List.length_map, List.length_take]; omega), ?_, ?_⟩
      · intro b o e
        rw [upd_ne (ne_of_none e nD)]
        exact sx _ _ e
      · rw [upd_same, take_snoc hz, putK_new _ (by rw [valV_names (g := fun _ => V.bl true), if_neg hzt]), List.map_append]; rfl
    rintro H1 ⟨s1, eD⟩
    rw [List.length_map, List.take_length] at eD
    refine rs_set ?_
    refine ⟨Nat.zero_le _, fun ml nml => ?_⟩
    have s2 := s1.trans (same_upd (o := .lst []) nml)
    have hml0 : H ml = none := s1.free nml
    have eD2 := (same_upd (o := .lst []) nml) _ _ eD
    have em2 : (upd H1 ml (.lst [])) ml = some (.lst []) := upd_same
    generalize (upd H1 ml (.lst [])) = H2 at s2 eD2 em2 ⊢
    refine rs_enumK 2 ((ts.map tieLine).map V.str) (fun a H3 => Same H2 H3 ∧ H3 a = some (.lst ((ts.map tieLine).map V.str)) ∧ a ≠ ml)
      (fun a j σ' H' => ∃ o4 o5 o6 o7 qs, σ' = [some (.ref l), some (.ref p), some (.ref D), some (.ref ml), o4, o5, o6, o7, none] ∧ Same H H' ∧ H' D = some (.dK (ns.map fun n => ((Sum.inr n : Key), V.bl true))) ∧ H' a = some (.lst ((ts.map tieLine).map V.str)) ∧ a ≠ ml ∧ H' ml = some (.lst (qs.map V.ref)) ∧ Paired (TieL H') qs (ts.take j))
      (fun R hR => ⟨.ref l, rfl, 1, rfl, l, _, rfl, sql_of (s2 _ _ el), fun a na => ⟨a, (ts.map tieLine).map V.str, 2, rfl, rfl, by decide, by decide, sql_of (by rw [upd_same, cut1]; rfl), hR a _ ⟨same_upd na, by rw [upd_same, cut1]; rfl, fun e => by rw [e, em2] at na; cases na⟩⟩⟩)
      (fun a H3 ⟨s3, e3, ne⟩ => ⟨_, _, _, _, [], rfl, s2.trans s3, s3 _ _ eD2, e3, ne, s3 _ _ em2, .nil⟩)
      (fun a j σ' H' _ ⟨_, _, _, _, _, _, _, _, e, _⟩ => sql_of e) ?_ ?_
    · rintro a j x σ' H' T hj ⟨o4, o5, o6, o7, qs, rfl, sx, eD', ea, nam, em, hp⟩ nT hx
      obtain ⟨ln, hln, rfl⟩ := map_get hx
      rw [List.getElem?_map] at hln
      obtain ⟨t, ht, rfl⟩ : ∃ t, ts[j]? = some t ∧ ln = tieLine t := by
        cases hh : ts[j]? with
        | none => rw [hh] at hln; cases hln
        | some t => rw [hh] at hln; exact ⟨t, rfl, (Option.some.inj hln).symm⟩
      obtain ⟨m1, m2, m3⟩ := own.tie t (List.mem_of_getElem? ht)
      have hjl := (List.getElem?_eq_some_iff.mp ht).1
      refine ⟨T, [.int (2 + (j : Nat)), .str (tieLine t)], rfl, sqt_of upd_same, rfl, _, [.str (tieLine t)], rfl, _, [], rfl, rfl, ?_⟩
      have sT : Same H' (upd H' T (.tup [.int (2 + (j : Nat)), .str (tieLine t)])) := same_upd nT
      generalize (upd H' T (.tup [.int (2 + (j : Nat)), .str (tieLine t)])) = H3 at sT ⊢
      refine rs_set ?_
      refine ⟨.str (tieLine t), rfl, ⟨_, rfl⟩, tieLine t, sBl, rfl, rfl, by decide +kernel, Nat.le_of_lt (small1000 (by have := tieLine_len nm m1 m2; omega)), fun wl nwl => ?_⟩
      rw [nmtie (ts := ts) nm m1 m2]
      have sw := sT.trans (same_upd (o := .lst ([Str.ofString "tie", t.1, t.2].map V.str)) nwl)
      have ew : (upd H3 wl (.lst ([Str.ofString "tie", t.1, t.2].map V.str))) wl = some (.lst [.str (Str.ofString "tie"), .str t.1, .str t.2]) := upd_same
      generalize (upd H3 wl (.lst ([Str.ofString "tie", t.1, t.2].map V.str))) = H4 at sw ew ⊢
      refine rs_set ?_
      refine ⟨.ref wl, rfl, 1, rfl, wl, _, rfl, sql_of ew, fun c nc => ⟨c, _, rfl, .inl ⟨sql_of upd_same, fun tp ntp => ?_⟩⟩⟩
      rw [cut1] at ntp ⊢
      have sc := (same_upd (o := .lst ([V.str (Str.ofString "tie"), .str t.1, .str t.2].drop 1)) nc).trans (same_upd (o := .tup ([V.str (Str.ofString "tie"), .str t.1, .str t.2].drop 1)) ntp)
      have etp : (upd (upd H4 c (.lst ([V.str (Str.ofString "tie"), .str t.1, .str t.2].drop 1))) tp (.tup ([V.str (Str.ofString "tie"), .str t.1, .str t.2].drop 1))) tp = some (.tup [.str t.1, .str t.2]) := upd_same
      have htp0 : H' tp = none := (sw.trans (same_upd (o := .lst ([V.str (Str.ofString "tie"), .str t.1, .str t.2].drop 1)) nc)).free ntp
      generalize (upd (upd H4 c (.lst ([V.str (Str.ofString "tie"), .str t.1, .str t.2].drop 1))) tp (.tup ([V.str (Str.ofString "tie"), .str t.1, .str t.2].drop 1))) = H5 at sc etp ⊢
      have s5 := sw.trans sc
      refine rs_no ?_
      refine ⟨.ref wl, rfl, wl, _, 0, .str (Str.ofString "tie"), rfl, rfl, sql_of (sc _ _ ew), rfl, rfl, false, congrArg V.bl (by simp), ?_⟩
      refine ⟨.ref tp, rfl, .ref D, rfl, tp, D, ns, t, rfl, etp, s5 _ _ eD', m1, m2, m3, fun H6 s6 => ⟨true, rfl, ?_⟩⟩
      have s6' := s5.trans s6
      have em6 := s6' _ _ em
      refine rs_no ?_
      have hqs : qs.length = j := by rw [Paired.length hp, List.length_take]; omega
      have etp6 := s6 _ _ etp
      have nDm : D ≠ ml := ne_of eD' em (fun z => nomatch z)
      have pv : ∃ o4 o5 o6 o7 qs', ([some (.ref l), some (.ref p), some (.ref D), some (.ref ml), some (.int (2 + (j : Nat))), some (.str (tieLine t)), some (.ref wl), some (.ref tp), none] : L2.St) = [some (.ref l), some (.ref p), some (.ref D), some (.ref ml), o4, o5, o6, o7, none] ∧ Same H (upd H6 ml (.lst (qs.map V.ref ++ [.ref tp]))) ∧ (upd H6 ml (.lst (qs.map V.ref ++ [.ref tp]))) D = some (.dK (ns.map fun n => ((Sum.inr n : Key), V.bl true))) ∧
          (upd H6 ml (.lst (qs.map V.ref ++ [.ref tp]))) a = some (.lst ((ts.map tieLine).map V.str)) ∧ a ≠ ml ∧ (upd H6 ml (.lst (qs.map V.ref ++ [.ref tp]))) ml = some (.lst (qs'.map V.ref)) ∧ Paired (TieL (upd H6 ml (.lst (qs.map V.ref ++ [.ref tp])))) qs' (ts.take (j + 1)) := by
        refine ⟨_, _, _, _, qs ++ [tp], rfl, ?_, ?_, ?_, nam, ?_, ?_⟩
        · intro b o e
          rw [upd_ne (ne_of_none e hml0)]
          exact s6' _ _ (sx _ _ e)
        · rw [upd_ne nDm]; exact s6' _ _ eD'
        · rw [upd_ne nam]; exact s6' _ _ ea
        · rw [upd_same, List.map_append]; rfl
        · rw [take_snoc ht]
          refine Paired.snoc (paired_mono (fun q t' e => ?_) hp) ?_
          · show (upd H6 ml _) q = _
            rw [upd_ne (ne_of (show H' q = _ from e) em (fun z => nomatch z))]
            exact s6' _ _ e
          · show (upd H6 ml _) tp = _
            rw [upd_ne (ne_of etp6 em6 (fun z => nomatch z))]
            exact etp6
      have hsz : (qs.map V.ref).length < sizeLine := by rw [List.length_map, sizeLine_eq]; omega
      rcases nil_or_snoc qs with rfl | ⟨qs', ql, rfl⟩
      · exact ⟨.ref ml, rfl, false, .inl ⟨_, sql_of em6, rfl⟩, .ref ml, rfl, .inl ⟨rfl, _, sql_of em6⟩, .ref tp, rfl, ml, _, _, rfl, rfl, em6, hsz, pv⟩
      · refine ⟨.ref ml, rfl, true, .inl ⟨_, sql_of em6, by simp⟩, ?_⟩
        have hj1 : (qs' ++ [ql])[j - 1]? = some ql := by
          rw [List.length_append] at hqs
          have : j - 1 = qs'.length := by rw [← hqs]; simp
          rw [this]; simp
        obtain ⟨u, hu', eu⟩ := paired_get hp hj1
        have hjp : 0 < j := by rw [← hqs, List.length_append]; simp
        have hut : ltP u t = true := by
          rw [List.getElem?_take] at hu'
          split at hu'
          · obtain ⟨p1, rfl⟩ := List.getElem?_eq_some_iff.mp hu'
            obtain ⟨p2, rfl⟩ := List.getElem?_eq_some_iff.mp ht
            exact List.pairwise_iff_getElem.mp asc (j - 1) j p1 p2 (by omega)
          · cases hu'
        refine ⟨.ref tp, rfl, .ref ml, rfl, 1, rfl, ml, _, _, .ref ql, rfl, rfl, sql_of em6, by rw [List.map_append]; exact atI_last _ _, tp, ql, [t.1, t.2], [u.1, u.2], rfl, rfl, sqt_of etp6, sqt_of (s6' _ _ eu), false, congrArg V.bl (le_tie hut), ?_⟩
        exact ⟨.ref ml, rfl, .inl ⟨rfl, _, sql_of em6⟩, .ref tp, rfl, ml, _, _, rfl, rfl, em6, hsz, pv⟩
    · rintro a σ' H' ⟨o4, o5, o6, o7, qs, rfl, sx, eD', ea, nam, em, hp⟩
      rw [List.length_map, List.length_map, List.take_length] at hp
      exact ⟨.ref ml, rfl, ml, _, rfl, .inl ⟨sql_of em, fun t nt => q t qs _ (sx.trans (same_upd nt)) upd_same (paired_mono (fun q t e => (same_upd nt) _ _ e) hp)⟩⟩
end
end Hw

set_option Elab.async false
set_option linter.all false
set_option maxRecDepth 100000
set_option maxHeartbeats 4000000
namespace Hw
open PySem L2 PyProof.Rows
/-- a web as its text tells it -/
structure GoodW (ns : List Str) (ts : List Tie) : Prop where
  asc : Asc ns
  nm : ∀ z ∈ ns, Nm z
  few : ns.length ≤ 200
  tasc : AscP ts
  tie : ∀ t ∈ ts, t.1 ∈ ns ∧ t.2 ∈ ns ∧ strLt t.1 t.2 = true
  tfew : ts.length ≤ 100000
theorem GoodW.fine {ns : List Str} {ts : List Tie} (g : GoodW ns ts) : FineW ns ts := ⟨g.asc.nodup, g.few, g.tie, g.tfew⟩
theorem OwnW.good {ns : List Str} {ts : List Tie} (o : OwnW ns ts) : GoodW ns ts := ⟨o.asc, o.nm, by have := o.few; omega, o.tasc, o.tie, by have := o.tfew; omega⟩
theorem join_mem {y : Str} {c : Nat} : ∀ {ps : List Str}, c ∈ (Txt.join y ps).cps.toList → c ∈ y.cps.toList ∨ ∃ p ∈ ps, c ∈ p.cps.toList
  | [], h => by rw [TL.join_eq] at h; cases h
  | [p], h => by
    rw [TL.join_eq] at h
    exact .inr ⟨p, List.mem_cons_self, h⟩
  | p :: q :: r, h => by
    rw [TL.join_eq] at h
    have e : Str.join y (p :: q :: r) = p ++ y ++ Str.join y (q :: r) := rfl
    rw [e, app_cps, app_cps] at h
    rcases List.mem_append.mp h with h | h
    · rcases List.mem_append.mp h with h | h
      · exact .inr ⟨p, List.mem_cons_self, h⟩
      · exact .inl h
    · rw [← TL.join_eq] at h
      rcases join_mem h with h | ⟨z, hz, h⟩
      · exact .inl h
      · exact .inr ⟨z, List.mem_cons_of_mem _ hz, h⟩
theorem GoodW.split {ns : List Str} {ts : List Tie} (g : GoodW ns ts) : Txt.split (webText ns ts) sNl = webLines ns ts := by
  refine split_nl (by unfold webLines; exact fun z => nomatch z) fun p hp hm => ?_
  have b : 10 ∉ sBl.cps.toList := by decide +kernel
  rcases List.mem_cons.mp hp with rfl | hp
  · rcases join_mem hm with h | ⟨z, hz, h⟩
    · exact b h
    · rcases List.mem_cons.mp hz with rfl | hz
      · exact absurd h (by decide +kernel)
      · exact nm_no (g.nm z hz) (by decide) h
  · obtain ⟨t, ht, rfl⟩ := List.mem_map.mp hp
    obtain ⟨m1, m2, _⟩ := g.tie t ht
    rcases join_mem hm with h | ⟨z, hz, h⟩
    · exact b h
    · rcases List.mem_cons.mp hz with rfl | hz
      · exact absurd h (by decide +kernel)
      · rcases List.mem_cons.mp hz with rfl | hz
        · exact nm_no (g.nm _ m1) (by decide) h
        · rw [List.mem_singleton.mp hz] at h; exact nm_no (g.nm _ m2) (by decide) h
theorem GoodW.first {ns : List Str} {ts : List Tie} (g : GoodW ns ts) : Txt.split (placesLine ns) sBl = Str.ofString "places" :: ns := by
  refine split_bl (fun z => nomatch z) fun p hp => ?_
  rcases List.mem_cons.mp hp with rfl | hp
  · decide +kernel
  · exact nm_no (g.nm p hp) (by decide)
theorem GoodW.flen {ns : List Str} {ts : List Tie} (g : GoodW ns ts) : (placesLine ns).length ≤ 2000 := by
  refine Nat.le_trans (join_len _ _) ?_
  have h := sum_le (ps := ns) (b := 8) fun p hp => (g.nm p hp).2.1
  have h1 := g.few
  have e1 : (Str.ofString "places").length = 6 := by decide +kernel
  have e2 : sBl.length = 1 := by decide +kernel
  rw [List.map_cons, List.sum_cons, List.length_cons, e1, e2]
  omega
theorem GoodW.len {ns : List Str} {ts : List Tie} (g : GoodW ns ts) : (webText ns ts).length + 2 ≤ sizeLine := by
  have h := sum_le (ps := ts.map tieLine) (b := 22) fun p hp => by
    obtain ⟨t, ht, rfl⟩ := List.mem_map.mp hp
    obtain ⟨m1, m2, _⟩ := g.tie t ht
    exact tieLine_len g.nm m1 m2
  have h0 := g.flen
  have e2 : sNl.length = 1 := by decide +kernel
  have h2 := join_len sNl (webLines ns ts)
  have h3 := g.tfew
  rw [show webLines ns ts = placesLine ns :: ts.map tieLine from rfl, List.map_cons, List.sum_cons, List.length_cons, e2, List.length_map] at h2
  rw [List.length_map] at h
  rw [sizeLine_eq]
  show (Txt.join sNl (placesLine ns :: ts.map tieLine)).length + 2 ≤ _
  omega
/-- places and ties as they are read -/
def ReadAt (H : Hp) (pl t : Addr) (ns : List Str) (ts : List Tie) : Prop := H pl = some (.tup (ns.map V.str)) ∧ ∃ qs : List Addr, H t = some (.tup (qs.map V.ref)) ∧ Paired (TieL H) qs ts
def spReadW : Sp := fun vs H Q _ => ∃ (ns : List Str) (ts : List Tie), vs = [.str (webText ns ts)] ∧ GoodW ns ts ∧ ∀ p pl t H', Same H H' → H' p = some (.tup [.ref pl, .ref t]) → ReadAt H' pl t ns ts → Q (.ref p) H'
section
variable {P : Program} {w : World} {K : PySem.W.Frag} {mg : Str → Option Value} {base : Heap}
theorem scReadW : FnScope ["text", "lines", "words", "places"] ["text"] (defScope sReadW) := ⟨rfl, rfl, rfl, by decide +kernel, rfl, by decide +kernel, by decide +kernel⟩
theorem ok_readw {f fA fR : Addr} {fd fdA fdR : FuncData} {k : Nat} (F : Fun K "read_web" "read_web" sReadW f fd) (B : Blt mg) (B3 : Blt3 mg) (GA : FnOk P w K mg base CX0 k fA fdA ["value"] spArePl) (gA : mg "are_places" = some (.ref fA)) (kA : PySem.W.keepIn K (.ref fA) = true) (bA : Binds K fdA ["value"] [])
    (GR : FnOk P w K mg base CX0 k fR fdR ["lines", "places"] spReadT) (gR : mg "read_ties" = some (.ref fR)) (kR : PySem.W.keepIn K (.ref fR) = true) (bR : Binds K fdR ["lines", "places"] []) : FnOk P w K mg base CX0 (k + 1) f fd ["text"] spReadW := by
  refine F.ok scReadW (fun vs H Q E h => ?_) (fun cdv A outer s H vs Q E hr h => ?_)
  · obtain ⟨ns, ts, rfl, _⟩ := h
    rfl
  · obtain ⟨ns, ts, rfl, g, q⟩ := h
    refine ⟨_, pss_cons (ps_if (pt_not (pt_val (pe_callB call_isi (by rfl) B3.isi PyProof.Rows.boot_isinstance (pa_cons (pv 0) (pa_cons (pe_bltn (v := .ty "str") (by rfl) B3.str (by decide +kernel) rfl) pa_nil))))) (pss_one ps_never) pss_nil)
      (pss_cons (ps_set (i := 1) scReadW.nd rfl (.inl rfl) (pe_split (pv 0) pe_str))
      (pss_cons (ps_set (i := 2) scReadW.nd rfl (.inl rfl) (pe_split (pe_ix ix_list (pv 1) pe_int (fun _ _ => rfl)) pe_str))
      (pss_cons (ps_set (i := 3) scReadW.nd rfl (.inl rfl) (pe_callTy call_tuple_of (by rfl) B3.tuple PyProof.Rows.boot_tuple (pa_cons (pe_slice sl_list (pv 2) (po_some pe_int) po_none) pa_nil)))
      (pss_cons (ps_if (PW.pt (pw_or (pt_cmpR op_ne (pe_ix ix_list (pv 2) pe_int (fun _ _ => rfl)) pe_str (nomark _)) (pw_or1 (pt_not (pt_val (pe_call GA hr (by rfl) gA kA bA .nil pass0 (pa_cons (pv 3) pa_nil))))))) (pss_one ps_never) pss_nil)
      (pss_one (ps_ret (pe_tup (pa_cons (pv 3) (pa_cons (pe_call GR hr (by rfl) gR kR bR .nil pass0 (pa_cons (pv 1) (pa_cons (pv 3) pa_nil))) pa_nil))))))))), ?_⟩
    refine rs_no ?_
    refine ⟨.str (webText ns ts), rfl, .str (webText ns ts), .ty "str", .type "str", .type "str", true, rfl, .ty _, .base (.str _), kit_ty (by decide +kernel), true, rfl, ?_⟩
    refine rs_set ?_
    refine ⟨.str (webText ns ts), rfl, ⟨_, rfl⟩, webText ns ts, sNl, rfl, rfl, by decide +kernel, g.len, fun l nl => ?_⟩
    rw [g.split]
    have s1 : Same H (upd H l (.lst ((webLines ns ts).map V.str))) := same_upd nl
    have el : (upd H l (.lst ((webLines ns ts).map V.str))) l = some (.lst ((placesLine ns :: ts.map tieLine).map V.str)) := upd_same
    generalize (upd H l (.lst ((webLines ns ts).map V.str))) = H1 at s1 el ⊢
    refine rs_set ?_
    refine ⟨.ref l, rfl, l, _, 0, .str (placesLine ns), rfl, rfl, sql_of el, atI_nat (j := 0) rfl, ⟨_, rfl⟩, placesLine ns, sBl, rfl, rfl, by decide +kernel, by have := g.flen; rw [sizeLine_eq]; omega, fun wl nwl => ?_⟩
    rw [g.first]
    have s2 : Same H1 (upd H1 wl (.lst ((Str.ofString "places" :: ns).map V.str))) := same_upd nwl
    have ew : (upd H1 wl (.lst ((Str.ofString "places" :: ns).map V.str))) wl = some (.lst (.str (Str.ofString "places") :: ns.map V.str)) := upd_same
    generalize (upd H1 wl (.lst ((Str.ofString "places" :: ns).map V.str))) = H2 at s2 ew ⊢
    refine rs_set ?_
    refine ⟨.ref wl, rfl, 1, rfl, wl, _, rfl, sql_of ew, fun c nc => ⟨c, _, rfl, .inl ⟨sql_of upd_same, fun pl npl => ?_⟩⟩⟩
    rw [cut1] at npl ⊢
    have s3 := (same_upd (o := .lst ((V.str (Str.ofString "places") :: ns.map V.str).drop 1)) nc).trans (same_upd (o := .tup ((V.str (Str.ofString "places") :: ns.map V.str).drop 1)) npl)
    have epl : (upd (upd H2 c (.lst ((V.str (Str.ofString "places") :: ns.map V.str).drop 1))) pl (.tup ((V.str (Str.ofString "places") :: ns.map V.str).drop 1))) pl = some (.tup (ns.map V.str)) := upd_same
    generalize (upd (upd H2 c (.lst ((V.str (Str.ofString "places") :: ns.map V.str).drop 1))) pl (.tup ((V.str (Str.ofString "places") :: ns.map V.str).drop 1))) = H3 at s3 epl ⊢
    refine rs_no ?_
    refine ⟨.ref wl, rfl, wl, _, 0, .str (Str.ofString "places"), rfl, rfl, sql_of (s3 _ _ ew), atI_nat (j := 0) rfl, rfl, false, congrArg V.bl (by simp), ?_⟩
    refine ⟨.ref pl, rfl, pl, ns, rfl, epl, g.asc, g.nm, g.few, fun H4 s4 => ⟨true, rfl, ?_⟩⟩
    have s13 := (s2.trans s3).trans s4
    refine ⟨.ref pl, rfl, .ref l, rfl, .ref pl, rfl, l, pl, placesLine ns, ns, ts, rfl, s13 _ _ el, s4 _ _ epl, g.fine, g.nm, g.tasc, fun t qs H5 s5 et hp => ⟨by show 2 ≤ sizeLine; decide, fun p np => ?_⟩⟩
    have s6 := same_upd (o := .tup [.ref pl, .ref t]) np
    exact q p pl t _ (((s1.trans s13).trans s5).trans s6) upd_same ⟨s6 _ _ (s5 _ _ (s4 _ _ epl)), qs, s6 _ _ et, paired_mono (fun q t e => s6 _ _ e) hp⟩
end
end Hw

set_option Elab.async false
set_option linter.all false
set_option maxRecDepth 100000
set_option maxHeartbeats 4000000
namespace Hw
open PySem L2 PyProof.Rows
/-! how far, level by level -/
abbrev Far := List (Str × Nat)
def lookF (far : Far) (n : Str) : Nat := ((far.find? fun p => decide (p.1 = n)).map (·.2)).getD 0
def encF (far : Far) : List (Key × V) := far.map fun p => ((Sum.inr p.1 : Key), V.int (p.2 : Int))
theorem valV_far (far : Far) (n : Str) : valV (encF far) (Sum.inr n) = if n ∈ far.map (·.1) then some (.int (lookF far n : Nat)) else none := by
  induction far with
  | nil => exact valV_nil
  | cons p far ih =>
    show valV (((Sum.inr p.1 : Key), V.int (p.2 : Int)) :: encF far) _ = _
    by_cases h : p.1 = n
    · rw [valV_pos (congrArg Sum.inr h), if_pos (by rw [← h]; exact List.mem_cons_self)]
      show some (V.int _) = some (V.int _)
      unfold lookF
      rw [List.find?_cons_of_pos (by exact decide_eq_true h)]
      rfl
    · rw [valV_neg (fun e => h (Sum.inr.inj e)), ih]
      have e : lookF (p :: far) n = lookF far n := by
        unfold lookF
        rw [List.find?_cons_of_neg (by simpa using h)]
      rw [e, List.map_cons]
      by_cases hm : n ∈ far.map (·.1)
      · rw [if_pos hm, if_pos (List.mem_cons_of_mem _ hm)]
      · rw [if_neg hm, if_neg (fun z => by rcases List.mem_cons.mp z with z | z; exact h z.symm; exact hm z)]
def stepO (one : Str) (s : Far × List Str) (o : Str) : Far × List Str := if o ∈ s.1.map (·.1) then s else (s.1 ++ [(o, lookF s.1 one + 1)], s.2 ++ [o])
def stepE (nb : Str → List Str) (s : Far × List Str) (one : Str) : Far × List Str := (nb one).foldl (stepO one) s
def lvl (nb : Str → List Str) (s : Far × List Str) : Far × List Str := s.2.foldl (stepE nb) (s.1, [])
def lev (nb : Str → List Str) (p : Str) : Nat → Far × List Str
  | 0 => ([(p, 0)], [p])
  | i + 1 => lvl nb (lev nb p i)
/-- what stands at every moment -/
structure FarOk (ns : List Str) (n0 : Nat) (s : Far × List Str) : Prop where
  nd : (s.1.map (·.1)).Nodup
  sub : ∀ n ∈ s.1.map (·.1), n ∈ ns
  bey : ∀ n ∈ s.2, n ∈ s.1.map (·.1)
  len : s.1.length = n0 + s.2.length
theorem FarOk.few {ns : List Str} {n0 : Nat} {s : Far × List Str} (f : FarOk ns n0 s) : s.1.length ≤ ns.length := by
  have := sub_len f.nd f.sub
  rw [List.length_map] at this
  exact this
theorem FarOk.stepO {ns : List Str} {n0 : Nat} {s : Far × List Str} (f : FarOk ns n0 s) {one o : Str} (ho : o ∈ ns) : FarOk ns n0 (stepO one s o) ∧ ∀ n ∈ s.1.map (·.1), n ∈ (Hw.stepO one s o).1.map (·.1) := by
  unfold Hw.stepO
  by_cases h : o ∈ s.1.map (·.1)
  · rw [if_pos h]; exact ⟨f, fun _ z => z⟩
  · rw [if_neg h]
    refine ⟨⟨?_, ?_, ?_, ?_⟩, ?_⟩
    · show ((s.1 ++ [(o, lookF s.1 one + 1)]).map (·.1)).Nodup
      rw [List.map_append, List.nodup_append]
      exact ⟨f.nd, by simp, fun x hx y hy e => h (by rw [List.mem_singleton.mp hy] at e; rw [show x = o from e] at hx; exact hx)⟩
    · intro n hn
      have hn : n ∈ (s.1 ++ [(o, lookF s.1 one + 1)]).map (·.1) := hn
      rw [List.map_append] at hn
      rcases List.mem_append.mp hn with hn | hn
      · exact f.sub n hn
      · rw [List.mem_singleton.mp hn]; exact ho
    · intro n hn
      show n ∈ (s.1 ++ [(o, lookF s.1 one + 1)]).map (·.1)
      rw [List.map_append]
      rcases List.mem_append.mp hn with hn | hn
      · exact List.mem_append_left _ (f.bey n hn)
      · exact List.mem_append_right _ (by rw [List.mem_singleton.mp hn]; exact List.mem_cons_self)
    · show (s.1 ++ [_]).length = n0 + (s.2 ++ [_]).length
      rw [List.length_append, List.length_append, f.len]; rfl
    · intro n hn
      show n ∈ (s.1 ++ [(o, lookF s.1 one + 1)]).map (·.1)
      rw [List.map_append]
      exact List.mem_append_left _ hn
theorem FarOk.foldO {ns : List Str} {n0 : Nat} {one : Str} : ∀ {os : List Str} {s : Far × List Str}, FarOk ns n0 s → (∀ o ∈ os, o ∈ ns) → FarOk ns n0 (os.foldl (Hw.stepO one) s) ∧ ∀ n ∈ s.1.map (·.1), n ∈ (os.foldl (Hw.stepO one) s).1.map (·.1)
  | [], _, f, _ => ⟨f, fun _ z => z⟩
  | o :: os, s, f, h => by
    obtain ⟨f1, k1⟩ := f.stepO (one := one) (h o List.mem_cons_self)
    obtain ⟨f2, k2⟩ := FarOk.foldO (one := one) f1 fun o ho => h o (List.mem_cons_of_mem _ ho)
    exact ⟨f2, fun n hn => k2 n (k1 n hn)⟩
theorem FarOk.foldE {ns : List Str} {n0 : Nat} {nb : Str → List Str} (hnb : ∀ n ∈ ns, ∀ o ∈ nb n, o ∈ ns) : ∀ {es : List Str} {s : Far × List Str}, FarOk ns n0 s → (∀ o ∈ es, o ∈ ns) → FarOk ns n0 (es.foldl (stepE nb) s) ∧ ∀ n ∈ s.1.map (·.1), n ∈ (es.foldl (stepE nb) s).1.map (·.1)
  | [], _, f, _ => ⟨f, fun _ z => z⟩
  | o :: os, s, f, h => by
    obtain ⟨f1, k1⟩ := f.foldO (one := o) (hnb o (h o List.mem_cons_self))
    obtain ⟨f2, k2⟩ := FarOk.foldE hnb f1 fun o ho => h o (List.mem_cons_of_mem _ ho)
    exact ⟨f2, fun n hn => k2 n (k1 n hn)⟩
theorem FarOk.lvl {ns : List Str} {n0 : Nat} {nb : Str → List Str} (hnb : ∀ n ∈ ns, ∀ o ∈ nb n, o ∈ ns) {s : Far × List Str} (f : FarOk ns n0 s) : FarOk ns s.1.length (lvl nb s) :=
  (FarOk.foldE hnb (s := (s.1, [])) ⟨f.nd, f.sub, (fun _ z => nomatch z), rfl⟩ fun o ho => f.sub o (f.bey o ho)).1
theorem lev_ok {ns : List Str} {nb : Str → List Str} (hnb : ∀ n ∈ ns, ∀ o ∈ nb n, o ∈ ns) {p : Str} (hp : p ∈ ns) : ∀ i, ∃ n0, FarOk ns n0 (lev nb p i)
  | 0 => ⟨0, by simp [lev], by simp [lev, hp], by simp [lev], by simp [lev]⟩
  | i + 1 => by
    obtain ⟨n0, f⟩ := lev_ok hnb hp i
    exact ⟨_, f.lvl hnb⟩
def muF (ns : List Str) (s : Far × List Str) : Nat := 2 * (ns.length - s.1.length) + (if s.2 = [] then 0 else 1)
theorem mu_lvl {ns : List Str} {n0 : Nat} {nb : Str → List Str} (hnb : ∀ n ∈ ns, ∀ o ∈ nb n, o ∈ ns) {s : Far × List Str} (f : FarOk ns n0 s) (hs : s.2 ≠ []) : muF ns (lvl nb s) < muF ns s := by
  have f1 := f.lvl hnb
  have l1 := f1.len
  have l2 := f1.few
  have l3 := f.few
  unfold muF
  rw [if_neg hs]
  by_cases h : (Hw.lvl nb s).2 = []
  · rw [if_pos h]
    rw [h] at l1
    have : (Hw.lvl nb s).1.length = s.1.length := l1
    omega
  · rw [if_neg h]
    have : 0 < (Hw.lvl nb s).2.length := List.length_pos_iff.mpr h
    omega
/-- all that is joined to p, with how far it is -/
def Bfs (nb : Str → List Str) (p : Str) (far : Far) : Prop := ∃ i, lev nb p i = (far, [])
theorem lev_stay {nb : Str → List Str} {p : Str} {far : Far} {i : Nat} (h : lev nb p i = (far, [])) : ∀ k, lev nb p (i + k) = (far, [])
  | 0 => h
  | k + 1 => by
    show lvl nb (lev nb p (i + k)) = _
    rw [lev_stay h k]; rfl
theorem Bfs.uniq {nb : Str → List Str} {p : Str} {far far' : Far} (h : Bfs nb p far) (h' : Bfs nb p far') : far = far' := by
  obtain ⟨i, h⟩ := h
  obtain ⟨j, h'⟩ := h'
  have a := lev_stay h j
  have b := lev_stay h' i
  rw [Nat.add_comm] at b
  rw [a] at b
  exact congrArg Prod.fst b
end Hw

set_option Elab.async false
set_option linter.all false
set_option maxRecDepth 100000
set_option maxHeartbeats 4000000
namespace Hw
open PySem L2 PyProof.Rows
structure BfsH (H0 : Hp) (fd el bl : Addr) (s : Far × List Str) (edge : List Str) (H : Hp) : Prop where
  same : Same H0 H
  far : H fd = some (.dK (encF s.1))
  edge : H el = some (.lst (edge.map V.str))
  bey : H bl = some (.lst (s.2.map V.str))
  f0 : H0 fd = none
  b0 : H0 bl = none
  ne : el ≠ bl
def oneB (K : PySem.W.Frag) : TS := tIfS (tB (tDNotIn (tVar 6) (tVar 2))) (tSeq (sDPut (tVar 2) (tVar 6) (tOp (rI0 fun i j => V.int (i + j)) (tDGet (tVar 2) (tVar 5)) (tC (V.int 1)))) (tDrop (tBM K "list" rAppend (tVar 4) (tCons (tVar 6) tNil)))) tNext
def lapB (K : PySem.W.Frag) (te : TE) : TS := tSeq (tAsg (tLst tNil) (gName 4)) (tSeq (tFor (iList K (tVar 3)) (gName 5) (tFor (iList K te) (gName 6) (oneB K))) (tAsg (tVar 4) (gName 3)))
theorem bfs_one {K : PySem.W.Frag} {D : Ends} {s0 s1 : Option V} {H0 H : Hp} {fd el bl : Addr} {s : Far × List Str} {edge ns : List Str} {n0 : Nat} {one o : Str} (h : BfsH H0 fd el bl s edge H) (f : FarOk ns n0 s) (hl : ns.length ≤ 1000) (h1 : one ∈ s.1.map (·.1)) (ho : o ∈ ns)
    (fin : ∀ H', BfsH H0 fd el bl (stepO one s o) edge H' → D.nx [s0, s1, some (.ref fd), some (.ref el), some (.ref bl), some (.str one), some (.str o)] H') : oneB K D [s0, s1, some (.ref fd), some (.ref el), some (.ref bl), some (.str one), some (.str o)] H := by
  have few := f.few
  have len := f.len
  refine ⟨.str o, rfl, .ref fd, rfl, fd, _, rfl, DGet.k (k := Sum.inr o) h.far, _, rfl, ?_⟩
  rw [valV_far]
  by_cases hm : o ∈ s.1.map (·.1)
  · rw [if_pos hm]
    have := fin H (by unfold stepO; rw [if_pos hm]; exact h)
    exact this
  · rw [if_neg hm]
    have g1 : DGet H fd (.str one) (some (.int (lookF s.1 one : Nat))) := by
      have := DGet.k (k := Sum.inr one) h.far
      rw [valV_far, if_pos h1] at this
      exact this
    refine ⟨.ref fd, rfl, .str one, rfl, fd, _, rfl, g1, _, _, rfl, rfl, .ref fd, rfl, .str o, rfl, fd, _, rfl, DPut.k (k := Sum.inr o) h.far (by unfold encF; rw [List.length_map]; exact small1000 (by omega)), ?_⟩
    have hn : valV (encF s.1) (Sum.inr o) = none := by rw [valV_far, if_neg hm]
    rw [putK_new _ hn]
    have nfb : bl ≠ fd := ne_of h.bey h.far (fun z => nomatch z)
    have nef : el ≠ fd := ne_of h.edge h.far (fun z => nomatch z)
    refine ⟨.ref bl, rfl, .inl ⟨rfl, _, sql_of (by rw [upd_ne nfb]; exact h.bey)⟩, .str o, rfl, bl, _, _, rfl, rfl, by rw [upd_ne nfb]; exact h.bey, small1000 (by rw [List.length_map]; omega), fin _ ?_⟩
    unfold stepO
    rw [if_neg hm]
    refine ⟨fun b u e => ?_, ?_, ?_, ?_, h.f0, h.b0, h.ne⟩
    · rw [upd_ne (ne_of_none e h.b0), upd_ne (ne_of_none e h.f0)]
      exact h.same _ _ e
    · rw [upd_ne (Ne.symm nfb), upd_same]
      show some (HO.dK (encF s.1 ++ [_])) = some (HO.dK (encF (s.1 ++ [_])))
      unfold encF
      rw [List.map_append]
      rfl
    · rw [upd_ne h.ne, upd_ne nef]; exact h.edge
    · rw [upd_same]
      show _ = some (HO.lst ((s.2 ++ [o]).map V.str))
      rw [List.map_append]; rfl
theorem foldl_snoc {α β : Type} {g : β → α → β} {xs : List α} {i : Nat} {x : α} {b : β} (h : xs[i]? = some x) : (xs.take (i + 1)).foldl g b = g ((xs.take i).foldl g b) x := by
  rw [take_snoc h, List.foldl_append]; rfl
/-- the neighbours of one place -/
theorem bfs_all {K : PySem.W.Frag} {D : Ends} {te : TE} {s0 s1 o6 : Option V} {H0 H : Hp} {fd el bl : Addr} {s : Far × List Str} {edge ns : List Str} {nb : Str → List Str} {n0 : Nat} {one : Str} {a : Addr} (h : BfsH H0 fd el bl s edge H) (f : FarOk ns n0 s) (hl : ns.length ≤ 1000) (h1 : one ∈ s.1.map (·.1)) (hnb : ∀ o ∈ nb one, o ∈ ns)
    (ha : H0 a = some (.lst ((nb one).map V.str))) (hte : ∀ Q : VK, Q (.ref a) H → te [s0, s1, some (.ref fd), some (.ref el), some (.ref bl), some (.str one), o6] H Q)
    (fin : ∀ H' o6', BfsH H0 fd el bl (stepE nb s one) edge H' → D.nx [s0, s1, some (.ref fd), some (.ref el), some (.ref bl), some (.str one), o6'] H') : tFor (iList K te) (gName 6) (oneB K) D [s0, s1, some (.ref fd), some (.ref el), some (.ref bl), some (.str one), o6] H := by
  refine hte _ ⟨a, rfl, ⟨_, sql_of (h.same _ _ ha)⟩, for_list (xs := (nb one).map V.str) (fun i σ' H' => ∃ o6', σ' = [s0, s1, some (.ref fd), some (.ref el), some (.ref bl), some (.str one), o6'] ∧ BfsH H0 fd el bl (((nb one).take i).foldl (stepO one) s) edge H') ⟨_, rfl, h⟩ (fun i σ' H' _ ⟨_, _, w⟩ => sql_of (w.same _ _ ha)) ?_ ?_⟩
  · rintro i x σ' H' hx ⟨o6', rfl, w⟩
    obtain ⟨o, ho, rfl⟩ := map_get hx
    obtain ⟨fi, ki⟩ := f.foldO (one := one) (os := (nb one).take i) fun o ho => hnb o (List.mem_of_mem_take ho)
    exact bfs_one w fi hl (ki _ h1) (hnb o (List.mem_of_getElem? ho)) fun H'' w' => ⟨_, rfl, by rw [foldl_snoc ho]; exact w'⟩
  · rintro σ' H' ⟨o6', rfl, w⟩
    rw [List.length_map, List.take_length] at w
    exact fin H' o6' w
/-- a level -/
theorem bfs_lap {K : PySem.W.Frag} {D : Ends} {te : TE} {s0 s1 o4 o5 o6 : Option V} {H0 H : Hp} {fd el : Addr} {s : Far × List Str} {ns : List Str} {nb : Str → List Str} {n0 : Nat} {fa : Str → Addr} (e1 : Same H0 H) (e2 : H fd = some (.dK (encF s.1))) (e3 : H el = some (.lst (s.2.map V.str))) (f0 : H0 fd = none) (f : FarOk ns n0 s) (hl : ns.length ≤ 1000) (hnb : ∀ n ∈ ns, ∀ o ∈ nb n, o ∈ ns)
    (ha : ∀ n ∈ ns, H0 (fa n) = some (.lst ((nb n).map V.str))) (hte : ∀ n ∈ ns, ∀ (bl : Addr) (o6 : Option V) (H' : Hp) (Q : VK), Same H0 H' → Q (.ref (fa n)) H' → te [s0, s1, some (.ref fd), some (.ref el), some (.ref bl), some (.str n), o6] H' Q)
    (fin : ∀ H' bl o5' o6', Same H0 H' → H' fd = some (.dK (encF (lvl nb s).1)) → H' bl = some (.lst ((lvl nb s).2.map V.str)) → D.nx [s0, s1, some (.ref fd), some (.ref bl), some (.ref bl), o5', o6'] H') : lapB K te D [s0, s1, some (.ref fd), some (.ref el), o4, o5, o6] H := by
  refine rs_set ⟨Nat.zero_le _, fun bl nbl => ?_⟩
  have nel : el ≠ bl := ne_of_none e3 nbl
  have w0 : BfsH H0 fd el bl (s.1, []) s.2 (upd H bl (.lst [])) := ⟨e1.trans (same_upd nbl), (same_upd nbl) _ _ e2, (same_upd nbl) _ _ e3, upd_same, f0, e1.free nbl, nel⟩
  have f1 : FarOk ns s.1.length (s.1, []) := ⟨f.nd, f.sub, (fun _ z => nomatch z), rfl⟩
  refine rs_list el (s.2.map V.str) (fun Q q => ⟨_, rfl, q⟩) (fun i σ' H' => ∃ o5' o6', σ' = [s0, s1, some (.ref fd), some (.ref el), some (.ref bl), o5', o6'] ∧ BfsH H0 fd el bl ((s.2.take i).foldl (stepE nb) (s.1, [])) s.2 H') ⟨_, _, rfl, w0⟩ (fun i σ' H' _ ⟨_, _, _, w⟩ => sql_of w.edge) ?_ ?_
  · rintro i x σ' H' hx ⟨o5', o6', rfl, w⟩
    obtain ⟨one, ho, rfl⟩ := map_get hx
    have h1 := f.bey one (List.mem_of_getElem? ho)
    have hin := f.sub one h1
    obtain ⟨fi, ki⟩ := f1.foldE hnb (es := s.2.take i) fun o ho => f.sub o (f.bey o (List.mem_of_mem_take ho))
    refine r_gname ?_
    exact bfs_all w fi hl (ki _ h1) (hnb one hin) (ha one hin) (fun Q q => hte one hin bl o6' H' Q w.same q) fun H'' o6'' w' => ⟨_, _, rfl, by rw [foldl_snoc ho]; exact w'⟩
  · rintro σ' H' ⟨o5', o6', rfl, w⟩
    rw [List.length_map, List.take_length] at w
    exact ⟨.ref bl, rfl, fin H' bl o5' o6' w.same w.far w.bey⟩
end Hw

set_option Elab.async false
set_option linter.all false
set_option maxRecDepth 100000
set_option maxHeartbeats 4000000
namespace Hw
open PySem L2 PyProof.Rows
abbrev sFars : Stmt := topS 31
def spFars : Sp := fun vs H Q _ => ∃ (d : Addr) (p : Str) (f : Str → Addr) (ns : List Str) (ts : List Tie), vs = [.ref d, .str p] ∧ NearL f H d ns (nbr ts) ∧ p ∈ ns ∧ (∀ n ∈ ns, Nm n) ∧ ns.length ≤ 1000 ∧ (∀ n ∈ ns, ∀ o ∈ nbr ts n, o ∈ ns) ∧
  ∀ far fd H', Bfs (nbr ts) p far → (∃ n0, FarOk ns n0 (far, [])) → Same H H' → H' fd = some (.dK (encF far)) → H fd = none → Q (.ref fd) H'
theorem rs_whileM {c : TT} {tb u : TS} {D : Ends} {σ : L2.St} {H : Hp} (Pv : Nat → L2.St → Hp → Prop) (m0 : Nat) (h0 : Pv m0 σ H)
    (hs : ∀ m σ H, Pv m σ H → ∃ b : Bool, (∀ Q : Bool → Hp → Prop, (∀ H', Same H H' → Q b H') → c σ H Q) ∧ (b = true → ∀ H', Same H H' → ∀ D' : Ends, (∀ σ'' H'', (∃ m', m' < m ∧ Pv m' σ'' H'') → D'.nx σ'' H'') → tb D' σ H') ∧ (b = false → ∀ H', Same H H' → u D σ H')) :
    tSeq (tWhile c tb) u D σ H := by
  refine ⟨Pv, ⟨m0, h0⟩, fun m σ H p => ?_⟩
  obtain ⟨b, hc, h1, h2⟩ := hs m σ H p
  refine hc _ fun H' s' => ?_
  cases b with
  | true => exact ⟨fun σ'' H'' => ∃ m', m' < m ∧ Pv m' σ'' H'', fun σ' H' ⟨m', l, p'⟩ => ⟨m', l, p'⟩, h1 rfl H' s' _ fun σ'' H'' z => z⟩
  | false => exact h2 rfl H' s'
/-- where the loop stands -/
def LevAt (H0 : Hp) (s0 s1 : Option V) (fd : Addr) (ns : List Str) (nb : Str → List Str) (p : Str) (m : Nat) (σ : L2.St) (H : Hp) : Prop := ∃ i el o4 o5 o6, σ = [s0, s1, some (.ref fd), some (.ref el), o4, o5, o6] ∧ Same H0 H ∧ H fd = some (.dK (encF (lev nb p i).1)) ∧ H el = some (.lst ((lev nb p i).2.map V.str)) ∧ m = muF ns (lev nb p i)
/-- the whole way -/
theorem bfs_way {K : PySem.W.Frag} {c : TT} {u : TS} {D : Ends} {te : TE} {s0 s1 o4 o5 o6 : Option V} {H0 H : Hp} {fd el : Addr} {p : Str} {ns : List Str} {nb : Str → List Str} {fa : Str → Addr} (e1 : Same H0 H) (e2 : H fd = some (.dK (encF [(p, 0)]))) (e3 : H el = some (.lst [.str p])) (f0 : H0 fd = none) (hp : p ∈ ns) (hl : ns.length ≤ 1000) (hnb : ∀ n ∈ ns, ∀ o ∈ nb n, o ∈ ns)
    (ha : ∀ n ∈ ns, H0 (fa n) = some (.lst ((nb n).map V.str))) (hte : ∀ n ∈ ns, ∀ (el bl : Addr) (o6 : Option V) (H' : Hp) (Q : VK), Same H0 H' → Q (.ref (fa n)) H' → te [s0, s1, some (.ref fd), some (.ref el), some (.ref bl), some (.str n), o6] H' Q)
    (hc : ∀ (el : Addr) (xs : List Str) (σ : L2.St) (H' : Hp) (Q : Bool → Hp → Prop), σ[3]? = some (some (.ref el)) → H' el = some (.lst (xs.map V.str)) → (∀ x ∈ xs, x ∈ ns) → (∀ H'', Same H' H'' → Q (!xs.isEmpty) H'') → c σ H' Q)
    (fin : ∀ far H' σ', σ'[2]? = some (some (.ref fd)) → Bfs nb p far → (∃ n0, FarOk ns n0 (far, [])) → Same H0 H' → H' fd = some (.dK (encF far)) → u D σ' H') : tSeq (tWhile c (lapB K te)) u D [s0, s1, some (.ref fd), some (.ref el), o4, o5, o6] H := by
  refine rs_whileM (LevAt H0 s0 s1 fd ns nb p) _ ⟨0, el, _, _, _, rfl, e1, e2, e3, rfl⟩ ?_
  rintro m σ H1 ⟨i, el1, o4', o5', o6', rfl, sx, efd, eel, rfl⟩
  obtain ⟨n0, f⟩ := lev_ok hnb hp i
  refine ⟨!(lev nb p i).2.isEmpty, fun Q q => hc el1 _ _ H1 Q rfl eel (fun x hx => f.sub x (f.bey x hx)) q, fun hb H2 s2 D' hD => ?_, fun hb H2 s2 => ?_⟩
  · have hne : (lev nb p i).2 ≠ [] := fun e => by rw [e] at hb; cases hb
    refine bfs_lap (fa := fa) (sx.trans s2) (s2 _ _ efd) (s2 _ _ eel) f0 f hl hnb ha (fun n hn bl o6'' H' Q s' q' => hte n hn el1 bl o6'' H' Q s' q') fun H' bl o5'' o6'' s' e' b' => hD _ _ ⟨_, mu_lvl hnb f hne, i + 1, bl, _, _, _, rfl, s', e', b', rfl⟩
  · have he : (lev nb p i).2 = [] := by
      cases h : (lev nb p i).2 with
      | nil => rfl
      | cons x xs => rw [h] at hb; cases hb
    have hb' : lev nb p i = ((lev nb p i).1, []) := Prod.ext rfl he
    exact fin _ _ _ rfl ⟨i, hb'⟩ ⟨n0, by rw [hb'] at f; exact f⟩ (sx.trans s2) (s2 _ _ efd)
theorem nm_ok {z : Str} (h : Nm z) : PyData.strOk z = true := by
  unfold PyData.strOk
  refine Array.all_eq_true_iff_forall_mem.mpr fun c hc => ?_
  have := h.2.2 c (cps_mem hc)
  exact decide_eq_true (by omega)
theorem strs_lay {ns : List Str} (hnm : ∀ n ∈ ns, Nm n) : ∀ {xs : List Str}, (∀ x ∈ xs, x ∈ ns) → SeqAt.shaped (.list (xs.map PyData.str)) = true := by
  intro xs h
  have a : ∀ {xs : List Str}, (∀ x ∈ xs, x ∈ ns) → PyData.canLayAll0 (xs.map PyData.str) = true := by
    intro xs
    induction xs with
    | nil => intro _; rfl
    | cons x xs ih =>
      intro h
      show PyData.canLayAll0 (PyData.str x :: xs.map PyData.str) = true
      rw [PyData.canLayAll0, ih fun y hy => h y (List.mem_cons_of_mem _ hy), PyData.canLay0, nm_ok (hnm x (h x List.mem_cons_self))]; rfl
  have b : ∀ xs : List Str, PyData.depthAll (xs.map PyData.str) = 0 := by
    intro xs
    induction xs with
    | nil => rfl
    | cons x xs ih =>
      show PyData.depthAll (PyData.str x :: xs.map PyData.str) = 0
      rw [PyData.depthAll, ih, PyData.depth]; rfl
  unfold SeqAt.shaped
  rw [PyData.canLay0, a h, PyData.depth, b]; rfl
theorem strs_dp {K : PySem.W.Frag} {H : Hp} : ∀ xs : List Str, DpAll K H (xs.map V.str) (xs.map PyData.str)
  | [] => .nil
  | x :: xs => .cons (.str x) (strs_dp xs)
section
variable {P : Program} {w : World} {K : PySem.W.Frag} {mg : Str → Option Value} {base : Heap}
theorem scFars : FnScope ["near", "name", "fars", "level", "later", "here", "other"] ["near", "name"] (defScope sFars) := ⟨rfl, rfl, rfl, by decide +kernel, rfl, by decide +kernel, by decide +kernel⟩
theorem ok_fars {f : Addr} {fd : FuncData} {k : Nat} (F : Fun K "_law_fars" "_law_fars" sFars f fd) : FnOk P w K mg base CX0 (k + 1) f fd ["near", "name"] spFars := by
  refine F.ok scFars (fun vs H Q E h => ?_) (fun cdv A outer s H vs Q E hr h => ?_)
  · obtain ⟨d, p, f, ns, ts, rfl, _⟩ := h
    rfl
  · obtain ⟨d, p, f, ns, ts, rfl, nl, hp, hnm, hl, hnb, q⟩ := h
    have hu := hu_of hr
    have hu64 := hr.units
    refine ⟨_, pss_cons (ps_par (i := 2) (j := 3) rfl scFars.nd rfl rfl (by decide) rfl rfl (pa_cons (pe_disp (pps_cons (pv 1) pe_int pps_nil) (by rfl) (by rfl) (fun z => by cases z) (by decide)) (pa_cons (pe_lst (pa_cons (pv 1) pa_nil)) pa_nil)) rfl)
      (pss_cons (ps_while PassesOwn.never (pt_cmpR (op_neD hu64) (pv 3) (pe_lst pa_nil) (nomark _))
        (pss_cons (ps_set (i := 4) scFars.nd rfl (.inl rfl) (pe_lst pa_nil))
        (pss_cons (ps_for PassesOwn.never rfl (pi_list (pv 3)) (pg_name (i := 5) scFars.nd rfl (.inl rfl))
          (pss_one (ps_for PassesOwn.never rfl (pi_list (pe_dget hu (pv 0) (pv 5) (fun _ _ => rfl))) (pg_name (i := 6) scFars.nd rfl (.inl rfl))
            (pss_one (ps_if (pt_cmp (pc_dnotin hu (pv 6) (pv 2)))
              (pss_cons (ps_dput hu (pv 2) (pv 6) (pe_op op_add (pe_dget hu (pv 2) (pv 5) (fun _ _ => rfl)) pe_int) rfl)
              (pss_one (ps_expr (pe_bm PySem.F.plainAttrs_list PySem.F.slot_list_append PySem.F.type_list_append mt_append (pv 4) (pa_cons (pv 6) pa_nil))))) pss_nil)))))
        (pss_one (ps_set (i := 3) scFars.nd rfl (.inl rfl) (pv 4))))))
      (pss_one (ps_ret (pv 2)))), ?_⟩
    refine rs_par ?_
    intro fd' nfd
    refine ⟨.str p, rfl, upd_same, [(Sum.inr p, .int 0)], rfl, by show 1 ≤ 15; decide, ?_⟩
    have sf : Same H (upd (upd H fd' (.dK [])) fd' (.dK (mergeK [] [((Sum.inr p : Key), V.int 0)]))) := fun b o e => by
      have hb := ne_of_none e nfd
      rw [upd_ne hb, upd_ne hb]; exact e
    have ef : (upd (upd H fd' (.dK [])) fd' (.dK (mergeK [] [((Sum.inr p : Key), V.int 0)]))) fd' = some (.dK (encF [(p, 0)])) := upd_same
    generalize (upd (upd H fd' (.dK [])) fd' (.dK (mergeK [] [((Sum.inr p : Key), V.int 0)]))) = H1 at sf ef ⊢
    refine ⟨.str p, rfl, by show 1 ≤ sizeLine; decide, fun el nel => ⟨_, _, rfl, ?_⟩⟩
    refine bfs_way (fa := f) (sf.trans (same_upd nel)) ((same_upd nel) _ _ ef) upd_same nfd hp hl hnb nl.lst (fun n hn el' bl o6 H' Q s' q' => ⟨.ref d, rfl, .str n, rfl, d, .ref (f n), rfl, (nl.keep s').get hn, q'⟩) (fun el' xs σ' H' Q hσ e hx q' => ?_) (fun far H' σ' hσ b hf s' e => ⟨.ref fd', hσ, q far fd' H' b hf s' e nfd⟩)
    refine ⟨.ref el', hσ, Nat.zero_le _, fun l nl' => ⟨.list (xs.map PyData.str), .list [], .lst (sql_of ((same_upd nl') _ _ e)) (strs_dp xs), .lst (sql_of upd_same) .nil, strs_lay hnm hx, by decide +kernel, _, rfl, ?_⟩⟩
    have eb : PyData.eqv (.list (xs.map PyData.str)) (.list []) = xs.isEmpty := by
      rw [PyData.eqv]
      cases xs with
      | nil => rfl
      | cons x xs => rfl
    rw [eb]
    exact q' _ (same_upd nl')
end
end Hw

set_option Elab.async false
set_option linter.all false
set_option maxRecDepth 100000
set_option maxHeartbeats 4000000
namespace Hw
open PySem L2 PyProof.Rows
abbrev sAlong : Stmt := topS 13
/-! all reached: nothing more comes -/
def FullF (ns : List Str) (s : Far × List Str) : Prop := ∀ n ∈ ns, n ∈ s.1.map (·.1)
theorem full_of {ns : List Str} {n0 : Nat} {s : Far × List Str} (f : FarOk ns n0 s) (e : s.1.length = ns.length) : FullF ns s := by
  intro n hn
  by_cases h : n ∈ s.1.map (·.1)
  · exact h
  · exfalso
    have := sub_len (l := n :: s.1.map (·.1)) (m := ns) (List.nodup_cons.mpr ⟨h, f.nd⟩) (fun z hz => by
      rcases List.mem_cons.mp hz with hz | hz
      · rw [hz]; exact hn
      · exact f.sub z hz)
    rw [List.length_cons, List.length_map] at this
    omega
theorem FullF.stepO {ns : List Str} {s : Far × List Str} (f : FullF ns s) {one o : Str} (ho : o ∈ ns) : Hw.stepO one s o = s := by
  unfold Hw.stepO
  rw [if_pos (f o ho)]
theorem FullF.foldO {ns : List Str} {one : Str} : ∀ {os : List Str} {s : Far × List Str}, FullF ns s → (∀ o ∈ os, o ∈ ns) → os.foldl (Hw.stepO one) s = s
  | [], _, _, _ => rfl
  | o :: os, s, f, h => by
    rw [List.foldl_cons, f.stepO (h o List.mem_cons_self)]
    exact FullF.foldO f fun o ho => h o (List.mem_cons_of_mem _ ho)
theorem FullF.foldE {ns : List Str} {nb : Str → List Str} (hnb : ∀ n ∈ ns, ∀ o ∈ nb n, o ∈ ns) : ∀ {es : List Str} {s : Far × List Str}, FullF ns s → (∀ o ∈ es, o ∈ ns) → es.foldl (stepE nb) s = s
  | [], _, _, _ => rfl
  | o :: os, s, f, h => by
    rw [List.foldl_cons, show stepE nb s o = s from f.foldO (hnb o (h o List.mem_cons_self))]
    exact FullF.foldE hnb f fun o ho => h o (List.mem_cons_of_mem _ ho)
theorem full_bfs {ns : List Str} {nb : Str → List Str} (hnb : ∀ n ∈ ns, ∀ o ∈ nb n, o ∈ ns) {p : Str} (hp : p ∈ ns) {k i : Nat} {s : Far × List Str} (e : s = ((lev nb p k).2.take i).foldl (stepE nb) ((lev nb p k).1, [])) (f : FullF ns s) : Bfs nb p s.1 ∧ ∃ n0, FarOk ns n0 (s.1, []) := by
  obtain ⟨n0, f0⟩ := lev_ok hnb hp k
  have h1 : lev nb p (k + 1) = s := by
    show (lev nb p k).2.foldl (stepE nb) ((lev nb p k).1, []) = s
    rw [← List.take_append_drop i (lev nb p k).2, List.foldl_append, ← e]
    exact f.foldE hnb fun o ho => f0.sub o (f0.bey o (List.mem_of_mem_drop ho))
  obtain ⟨n1, f1⟩ := lev_ok hnb hp (k + 1)
  have h2 : lev nb p (k + 1 + 1) = (s.1, []) := by
    show lvl nb (lev nb p (k + 1)) = _
    rw [h1]
    rw [h1] at f1
    have ff : FullF ns (s.1, []) := f
    exact ff.foldE hnb fun o ho => f1.sub o (f1.bey o ho)
  obtain ⟨n2, f2⟩ := lev_ok hnb hp (k + 1 + 1)
  rw [h2] at f2
  exact ⟨⟨_, h2⟩, n2, f2⟩
theorem rs_whileR {c : TT} {tb u : TS} {D : Ends} {σ : L2.St} {H : Hp} (Pv : Nat → L2.St → Hp → Prop) (m0 : Nat) (h0 : Pv m0 σ H)
    (hs : ∀ m σ H, Pv m σ H → ∃ b : Bool, (∀ Q : Bool → Hp → Prop, (∀ H', Same H H' → Q b H') → c σ H Q) ∧ (b = true → ∀ H', Same H H' → ∀ D' : Ends, D'.rt = D.rt → (∀ σ'' H'', (∃ m', m' < m ∧ Pv m' σ'' H'') → D'.nx σ'' H'') → tb D' σ H') ∧ (b = false → ∀ H', Same H H' → u D σ H')) :
    tSeq (tWhile c tb) u D σ H := by
  refine ⟨Pv, ⟨m0, h0⟩, fun m σ H p => ?_⟩
  obtain ⟨b, hc, h1, h2⟩ := hs m σ H p
  refine hc _ fun H' s' => ?_
  cases b with
  | true => exact ⟨fun σ'' H'' => ∃ m', m' < m ∧ Pv m' σ'' H'', fun σ' H' ⟨m', l, p'⟩ => ⟨m', l, p'⟩, h1 rfl H' s' _ rfl fun σ'' H'' z => z⟩
  | false => exact h2 rfl H' s'
def lapC (K : PySem.W.Frag) (tc : TT) (te : TE) : TS := tSeq (tAsg (tLst tNil) (gName 4)) (tSeq (tFor (iList K (tVar 3)) (gName 5) (tSeq (tIfS tc (tRet (tVar 2)) tNext) (tFor (iList K te) (gName 6) (oneB K)))) (tAsg (tVar 4) (gName 3)))
/-- a level, left where all is reached -/
theorem along_lap {K : PySem.W.Frag} {D : Ends} {tc : TT} {te : TE} {s0 s1 o4 o5 o6 : Option V} {H0 H : Hp} {fd el : Addr} {p : Str} {k : Nat} {ns : List Str} {nb : Str → List Str} {n0 : Nat} {fa : Str → Addr} (e1 : Same H0 H) (e2 : H fd = some (.dK (encF (lev nb p k).1))) (e3 : H el = some (.lst ((lev nb p k).2.map V.str))) (f0 : H0 fd = none) (f : FarOk ns n0 (lev nb p k)) (hp : p ∈ ns) (hl : ns.length ≤ 1000) (hnb : ∀ n ∈ ns, ∀ o ∈ nb n, o ∈ ns)
    (ha : ∀ n ∈ ns, H0 (fa n) = some (.lst ((nb n).map V.str))) (hte : ∀ n ∈ ns, ∀ (bl : Addr) (o6 : Option V) (H' : Hp) (Q : VK), Same H0 H' → Q (.ref (fa n)) H' → te [s0, s1, some (.ref fd), some (.ref el), some (.ref bl), some (.str n), o6] H' Q)
    (htc : ∀ (far : Far) (o3 o4 o5 o6 : Option V) (H' : Hp) (Q : Bool → Hp → Prop), Same H0 H' → H' fd = some (.dK (encF far)) → Q (decide (far.length = ns.length)) H' → tc [s0, s1, some (.ref fd), o3, o4, o5, o6] H' Q)
    (ret : ∀ far H', Bfs nb p far → (∃ n0, FarOk ns n0 (far, [])) → Same H0 H' → H' fd = some (.dK (encF far)) → D.rt (.ref fd) H')
    (fin : ∀ H' bl o5' o6', Same H0 H' → H' fd = some (.dK (encF (lev nb p (k + 1)).1)) → H' bl = some (.lst ((lev nb p (k + 1)).2.map V.str)) → D.nx [s0, s1, some (.ref fd), some (.ref bl), some (.ref bl), o5', o6'] H') : lapC K tc te D [s0, s1, some (.ref fd), some (.ref el), o4, o5, o6] H := by
  refine rs_set ⟨Nat.zero_le _, fun bl nbl => ?_⟩
  have nel : el ≠ bl := ne_of_none e3 nbl
  have w0 : BfsH H0 fd el bl ((lev nb p k).1, []) (lev nb p k).2 (upd H bl (.lst [])) := ⟨e1.trans (same_upd nbl), (same_upd nbl) _ _ e2, (same_upd nbl) _ _ e3, upd_same, f0, e1.free nbl, nel⟩
  have f1 : FarOk ns (lev nb p k).1.length ((lev nb p k).1, []) := ⟨f.nd, f.sub, (fun _ z => nomatch z), rfl⟩
  refine rs_list el ((lev nb p k).2.map V.str) (fun Q q => ⟨_, rfl, q⟩) (fun i σ' H' => ∃ o5' o6', σ' = [s0, s1, some (.ref fd), some (.ref el), some (.ref bl), o5', o6'] ∧ BfsH H0 fd el bl (((lev nb p k).2.take i).foldl (stepE nb) ((lev nb p k).1, [])) (lev nb p k).2 H') ⟨_, _, rfl, w0⟩ (fun i σ' H' _ ⟨_, _, _, w⟩ => sql_of w.edge) ?_ ?_
  · rintro i x σ' H' hx ⟨o5', o6', rfl, w⟩
    obtain ⟨one, ho, rfl⟩ := map_get hx
    have h1 := f.bey one (List.mem_of_getElem? ho)
    have hin := f.sub one h1
    obtain ⟨fi, ki⟩ := f1.foldE hnb (es := (lev nb p k).2.take i) fun o ho => f.sub o (f.bey o (List.mem_of_mem_take ho))
    refine r_gname ?_
    refine htc _ _ _ _ _ H' _ w.same w.far ?_
    show if decide _ = true then _ else _
    by_cases hf : (((lev nb p k).2.take i).foldl (stepE nb) ((lev nb p k).1, [])).1.length = ns.length
    · rw [if_pos (decide_eq_true hf)]
      obtain ⟨b, n2, g⟩ := full_bfs hnb hp rfl (full_of fi hf)
      exact ⟨.ref fd, rfl, ret _ H' b ⟨n2, g⟩ w.same w.far⟩
    · rw [if_neg (by simpa using hf)]
      exact bfs_all w fi hl (ki _ h1) (hnb one hin) (ha one hin) (fun Q q => hte one hin bl o6' H' Q w.same q) fun H'' o6'' w' => ⟨_, _, rfl, by rw [foldl_snoc ho]; exact w'⟩
  · rintro σ' H' ⟨o5', o6', rfl, w⟩
    rw [List.length_map, List.take_length] at w
    exact ⟨.ref bl, rfl, fin H' bl o5' o6' w.same w.far w.bey⟩
theorem along_way {K : PySem.W.Frag} {c : TT} {u : TS} {D : Ends} {tc : TT} {te : TE} {s0 s1 o4 o5 o6 : Option V} {H0 H : Hp} {fd el : Addr} {p : Str} {ns : List Str} {nb : Str → List Str} {fa : Str → Addr} (e1 : Same H0 H) (e2 : H fd = some (.dK (encF [(p, 0)]))) (e3 : H el = some (.lst [.str p])) (f0 : H0 fd = none) (hp : p ∈ ns) (hl : ns.length ≤ 1000) (hnb : ∀ n ∈ ns, ∀ o ∈ nb n, o ∈ ns)
    (ha : ∀ n ∈ ns, H0 (fa n) = some (.lst ((nb n).map V.str))) (hte : ∀ n ∈ ns, ∀ (el bl : Addr) (o6 : Option V) (H' : Hp) (Q : VK), Same H0 H' → Q (.ref (fa n)) H' → te [s0, s1, some (.ref fd), some (.ref el), some (.ref bl), some (.str n), o6] H' Q)
    (htc : ∀ (far : Far) (o3 o4 o5 o6 : Option V) (H' : Hp) (Q : Bool → Hp → Prop), Same H0 H' → H' fd = some (.dK (encF far)) → Q (decide (far.length = ns.length)) H' → tc [s0, s1, some (.ref fd), o3, o4, o5, o6] H' Q)
    (hc : ∀ (el : Addr) (xs : List Str) (σ : L2.St) (H' : Hp) (Q : Bool → Hp → Prop), σ[3]? = some (some (.ref el)) → H' el = some (.lst (xs.map V.str)) → (∀ x ∈ xs, x ∈ ns) → (∀ H'', Same H' H'' → Q (!xs.isEmpty) H'') → c σ H' Q)
    (ret : ∀ far H', Bfs nb p far → (∃ n0, FarOk ns n0 (far, [])) → Same H0 H' → H' fd = some (.dK (encF far)) → D.rt (.ref fd) H')
    (fin : ∀ far H' σ', σ'[2]? = some (some (.ref fd)) → Bfs nb p far → (∃ n0, FarOk ns n0 (far, [])) → Same H0 H' → H' fd = some (.dK (encF far)) → u D σ' H') : tSeq (tWhile c (lapC K tc te)) u D [s0, s1, some (.ref fd), some (.ref el), o4, o5, o6] H := by
  refine rs_whileR (LevAt H0 s0 s1 fd ns nb p) _ ⟨0, el, _, _, _, rfl, e1, e2, e3, rfl⟩ ?_
  rintro m σ H1 ⟨i, el1, o4', o5', o6', rfl, sx, efd, eel, rfl⟩
  obtain ⟨n0, f⟩ := lev_ok hnb hp i
  refine ⟨!(lev nb p i).2.isEmpty, fun Q q => hc el1 _ _ H1 Q rfl eel (fun x hx => f.sub x (f.bey x hx)) q, fun hb H2 s2 D' hr hD => ?_, fun hb H2 s2 => ?_⟩
  · have hne : (lev nb p i).2 ≠ [] := fun e => by rw [e] at hb; cases hb
    refine along_lap (fa := fa) (sx.trans s2) (s2 _ _ efd) (s2 _ _ eel) f0 f hp hl hnb ha (fun n hn bl o6'' H' Q s' q' => hte n hn el1 bl o6'' H' Q s' q') htc (fun far H' b g s' e' => by rw [hr]; exact ret far H' b g s' e') fun H' bl o5'' o6'' s' e' b' => hD _ _ ⟨_, mu_lvl hnb f hne, i + 1, bl, _, _, _, rfl, s', e', b', rfl⟩
  · have he : (lev nb p i).2 = [] := by
      cases h : (lev nb p i).2 with
      | nil => rfl
      | cons x xs => rw [h] at hb; cases hb
    have hb' : lev nb p i = ((lev nb p i).1, []) := Prod.ext rfl he
    exact fin _ _ _ rfl ⟨i, hb'⟩ ⟨n0, by rw [hb'] at f; exact f⟩ (sx.trans s2) (s2 _ _ efd)
section
variable {P : Program} {w : World} {K : PySem.W.Frag} {mg : Str → Option Value} {base : Heap}
theorem scAlong : FnScope ["tied", "place", "far", "edge", "beyond", "one", "other"] ["tied", "place"] (defScope sAlong) := ⟨rfl, rfl, rfl, by decide +kernel, rfl, by decide +kernel, by decide +kernel⟩
theorem ok_along {f : Addr} {fd : FuncData} {k : Nat} (F : Fun K "far_along" "far_along" sAlong f fd) (B : Blt mg) : FnOk P w K mg base CX0 (k + 1) f fd ["tied", "place"] spFars := by
  refine F.ok scAlong (fun vs H Q E h => ?_) (fun cdv A outer s H vs Q E hr h => ?_)
  · obtain ⟨d, p, f, ns, ts, rfl, _⟩ := h
    rfl
  · obtain ⟨d, p, f, ns, ts, rfl, nl, hp, hnm, hl, hnb, q⟩ := h
    have hu := hu_of hr
    have hu64 := hr.units
    refine ⟨_, pss_cons (ps_set (i := 2) scAlong.nd rfl (.inl rfl) (pe_disp (pps_cons (pv 1) pe_int pps_nil) (by rfl) (by rfl) (fun z => by cases z) (by decide)))
      (pss_cons (ps_set (i := 3) scAlong.nd rfl (.inl rfl) (pe_lst (pa_cons (pv 1) pa_nil)))
      (pss_cons (ps_while PassesOwn.never (pt_truth (pv 3) (by intro _; rfl))
        (pss_cons (ps_set (i := 4) scAlong.nd rfl (.inl rfl) (pe_lst pa_nil))
        (pss_cons (ps_for PassesOwn.never rfl (pi_list (pv 3)) (pg_name (i := 5) scAlong.nd rfl (.inl rfl))
          (pss_cons (ps_if (pt_cmpR op_eq (pe_callB call_lenD (by rfl) B.len PySem.boot_len (pa_cons (pv 2) pa_nil)) (pe_callB call_lenD (by rfl) B.len PySem.boot_len (pa_cons (pv 0) pa_nil)) (nomark _)) (pss_one (ps_ret (pv 2))) pss_nil)
          (pss_one (ps_for PassesOwn.never rfl (pi_list (pe_dget hu (pv 0) (pv 5) (fun _ _ => rfl))) (pg_name (i := 6) scAlong.nd rfl (.inl rfl))
            (pss_one (ps_if (pt_cmp (pc_dnotin hu (pv 6) (pv 2)))
              (pss_cons (ps_dput hu (pv 2) (pv 6) (pe_op op_add (pe_dget hu (pv 2) (pv 5) (fun _ _ => rfl)) pe_int) rfl)
              (pss_one (ps_expr (pe_bm PySem.F.plainAttrs_list PySem.F.slot_list_append PySem.F.type_list_append mt_append (pv 4) (pa_cons (pv 6) pa_nil))))) pss_nil))))))
        (pss_one (ps_set (i := 3) scAlong.nd rfl (.inl rfl) (pv 4))))))
      (pss_one (ps_ret (pv 2))))), ?_⟩
    refine rs_set ?_
    intro fd' nfd
    refine ⟨.str p, rfl, upd_same, [(Sum.inr p, .int 0)], rfl, by show 1 ≤ 15; decide, ?_⟩
    have sf : Same H (upd (upd H fd' (.dK [])) fd' (.dK (mergeK [] [((Sum.inr p : Key), V.int 0)]))) := fun b o e => by
      have hb := ne_of_none e nfd
      rw [upd_ne hb, upd_ne hb]; exact e
    have ef : (upd (upd H fd' (.dK [])) fd' (.dK (mergeK [] [((Sum.inr p : Key), V.int 0)]))) fd' = some (.dK (encF [(p, 0)])) := upd_same
    generalize (upd (upd H fd' (.dK [])) fd' (.dK (mergeK [] [((Sum.inr p : Key), V.int 0)]))) = H1 at sf ef ⊢
    refine rs_set ?_
    refine ⟨.str p, rfl, by show 1 ≤ sizeLine; decide, fun el nel => ?_⟩
    refine along_way (fa := f) (sf.trans (same_upd nel)) ((same_upd nel) _ _ ef) upd_same nfd hp hl hnb nl.lst (fun n hn el' bl o6 H' Q s' q' => ⟨.ref d, rfl, .str n, rfl, d, .ref (f n), rfl, (nl.keep s').get hn, q'⟩) (fun far o3 o4 o5 o6 H' Q s' e q' => ?_) (fun el' xs σ' H' Q hσ e hx q' => ?_) (fun far H' b hf s' e => q far fd' H' b hf s' e nfd) (fun far H' σ' hσ b hf s' e => ⟨.ref fd', hσ, q far fd' H' b hf s' e nfd⟩)
    · refine ⟨.ref fd', rfl, fd', _, rfl, e, .ref d, rfl, d, _, rfl, s' _ _ nl.dict, ?_⟩
      have eb : decide (V.int ((encF far).length : Nat) = V.int ((ns.map fun n => ((Sum.inr n : Key), V.ref (f n))).length : Nat)) = decide (far.length = ns.length) := by
        rw [List.length_map]
        unfold encF
        rw [List.length_map]
        rw [decide_eq_decide]
        constructor
        · intro e
          injection e with e
          omega
        · intro e
          rw [e]
      exact ⟨rfl, _, rfl, by rw [← eb] at q'; exact q'⟩
    · refine ⟨.ref el', hσ, _, .inl ⟨_, sql_of e, rfl⟩, ?_⟩
      have eb : (xs.map V.str).isEmpty = xs.isEmpty := by cases xs <;> rfl
      rw [eb]
      exact q' _ (Same.refl _)
end
end Hw

set_option Elab.async false
set_option linter.all false
set_option maxRecDepth 100000
set_option maxHeartbeats 4000000
namespace Hw
open PySem L2 PyProof.Rows
abbrev sInitW : Stmt := inClass (topS 11) 0
abbrev sHasW : Stmt := inClass (topS 11) 2
abbrev sFarBy : Stmt := inClass (topS 11) 4
def wfl (z : Str) (pl t d : Addr) : List (Str × V) := putF "_tied" (.ref d) (putF "ties" (.ref t) (putF "places" (.ref pl) (putF "text" (.str z) [])))
theorem wfl_tied (z : Str) (pl t d : Addr) : (wfl z pl t d).lookup ("_tied" : Str) = some (.ref d) := by
  unfold wfl
  rw [lookup_putF, if_pos rfl]
theorem wfl_no (z : Str) (pl t d : Addr) {m : Str} (h1 : ¬ m = "_tied") (h2 : ¬ m = "ties") (h3 : ¬ m = "places") (h4 : ¬ m = "text") : (wfl z pl t d).lookup m = none := by
  unfold wfl
  rw [lookup_putF, if_neg h1, lookup_putF, if_neg h2, lookup_putF, if_neg h3, lookup_putF, if_neg h4]; rfl
/-- a Web at x -/
structure WebO (C : Addr) (H : Hp) (x : Addr) (ns : List Str) (ts : List Tie) : Prop where
  ex : ∃ dx pl t d f, H x = some (.ins C dx (wfl (webText ns ts) pl t d)) ∧ ReadAt H pl t ns ts ∧ NearL f H d ns (nbr ts)
  good : GoodW ns ts
theorem ReadAt.keep {H H' : Hp} {pl t : Addr} {ns : List Str} {ts : List Tie} (r : ReadAt H pl t ns ts) (s : Same H H') : ReadAt H' pl t ns ts := by
  obtain ⟨h1, qs, h2, h3⟩ := r
  exact ⟨s _ _ h1, qs, s _ _ h2, paired_mono (fun q t e => s _ _ e) h3⟩
theorem WebO.keep {C : Addr} {H H' : Hp} {x : Addr} {ns : List Str} {ts : List Tie} (w : WebO C H x ns ts) (s : Same H H') : WebO C H' x ns ts := by
  obtain ⟨⟨dx, pl, t, d, f, h1, h2, h3⟩, g⟩ := w
  exact ⟨⟨dx, pl, t, d, f, s _ _ h1, h2.keep s, h3.keep s⟩, g⟩
theorem ReadAt.put {H : Hp} {pl t x C dx : Addr} {fs : List (Str × V)} {o : HO} {ns : List Str} {ts : List Tie} (r : ReadAt H pl t ns ts) (hx : H x = some (.ins C dx fs)) : ReadAt (upd H x o) pl t ns ts := by
  obtain ⟨h1, qs, h2, h3⟩ := r
  have n : ∀ {b : Addr} {xs : List V}, H b = some (.tup xs) → (upd H x o) b = some (.tup xs) := fun {b xs} e => by rw [upd_ne (ne_of e hx (fun z => nomatch z))]; exact e
  exact ⟨n h1, qs, n h2, paired_mono (fun q t e => n e) h3⟩
theorem NearL.put {f : Str → Addr} {H : Hp} {d x C dx : Addr} {fs : List (Str × V)} {o : HO} {ns : List Str} {L : Str → List Str} (w : NearL f H d ns L) (hx : H x = some (.ins C dx fs)) : NearL f (upd H x o) d ns L :=
  ⟨by rw [upd_ne (ne_of w.dict hx (fun z => nomatch z))]; exact w.dict, fun n hn => by rw [upd_ne (ne_of (w.lst n hn) hx (fun z => nomatch z))]; exact w.lst n hn, w.inj⟩
structure TxtW (K : PySem.W.Frag) (mg : Str → Option Value) (C : Addr) : Prop where
  cl : Cls K C
  nT : NoAttr K C "text"
  nP : NoAttr K C "places"
  nI : NoAttr K C "ties"
  nD : NoAttr K C "_tied"
  mW : mg "Web" = some (.ref C)
def spInitW (C : Addr) : Sp := fun vs H Q _ => ∃ (x dx : Addr) (ns : List Str) (ts : List Tie), vs = [.ref x, .str (webText ns ts)] ∧ GoodW ns ts ∧ H x = some (.ins C dx []) ∧ ∀ H', WebO C H' x ns ts → SameX x H H' → Q .non H'
def spHasW (C : Addr) : Sp := fun vs H Q _ => ∃ (x : Addr) (z : Str) (ns : List Str) (ts : List Tie), vs = [.ref x, .str z] ∧ WebO C H x ns ts ∧ z ∈ ns ∧ Q (.bl true) H
def spFarBy (C : Addr) : Sp := fun vs H Q _ => ∃ (x : Addr) (p : Str) (ns : List Str) (ts : List Tie), vs = [.ref x, .str p] ∧ WebO C H x ns ts ∧ p ∈ ns ∧ ∀ far fd H', Bfs (nbr ts) p far → (∃ n0, FarOk ns n0 (far, [])) → Same H H' → H' fd = some (.dK (encF far)) → H fd = none → Q (.ref fd) H'
section
variable {P : Program} {w : World} {K : PySem.W.Frag} {mg : Str → Option Value} {base : Heap}
theorem scInitW : FnScope ["self", "text", "places", "ties"] ["self", "text"] (defScope sInitW) := ⟨rfl, rfl, rfl, by decide +kernel, rfl, by decide +kernel, by decide +kernel⟩
theorem ok_initW {f fR fT C : Addr} {fd fdR fdT : FuncData} {k : Nat} (F : Fun K "__init__" "Web.__init__" sInitW f fd) (T : TxtW K mg C) (GR : FnOk P w K mg base CX0 k fR fdR ["text"] spReadW) (gR : mg "read_web" = some (.ref fR)) (kR : PySem.W.keepIn K (.ref fR) = true) (bR : Binds K fdR ["text"] [])
    (GT : FnOk P w K mg base CX0 k fT fdT ["places", "ties"] spTied) (gT : mg "tied_by" = some (.ref fT)) (kT : PySem.W.keepIn K (.ref fT) = true) (bT : Binds K fdT ["places", "ties"] []) : FnOk P w K mg base CX0 (k + 1) f fd ["self", "text"] (spInitW C) := by
  refine F.ok scInitW (fun vs H Q E h => ?_) (fun cdv A outer s H vs Q E hr h => ?_)
  · obtain ⟨x, dx, ns, ts, rfl, _⟩ := h
    rfl
  · obtain ⟨x, dx, ns, ts, rfl, g, hx, q⟩ := h
    refine ⟨_, pss_cons (ps_asg (pe_call GR hr (by rfl) gR kR bR .nil pass0 (pa_cons (pv 1) pa_nil)) (pg_tup rfl (pgs_cons (pg_name (i := 2) scInitW.nd rfl (.inl rfl)) (pgs_cons (pg_name (i := 3) scInitW.nd rfl (.inl rfl)) pgs_nil))))
      (pss_cons (ps_fld (pv 0) (pv 1) rfl) (pss_cons (ps_fld (pv 0) (pv 2) rfl) (pss_cons (ps_fld (pv 0) (pv 3) rfl) (pss_one (ps_fld (pv 0) (pe_call GT hr (by rfl) gT kT bT .nil pass0 (pa_cons (pv 2) (pa_cons (pv 3) pa_nil))) rfl))))), ?_⟩
    refine ⟨.str (webText ns ts), rfl, ns, ts, rfl, g, fun p pl t H1 s1 ep r => ?_⟩
    refine ⟨p, [.ref pl, .ref t], rfl, sqt_of ep, rfl, _, [.ref t], rfl, _, [], rfl, rfl, ?_⟩
    have e0 := s1 _ _ hx
    have l1 := length_putF "text" (V.str (webText ns ts)) []
    have l2 := length_putF "places" (V.ref pl) (putF "text" (V.str (webText ns ts)) [])
    have l3 := length_putF "ties" (V.ref t) (putF "places" (V.ref pl) (putF "text" (V.str (webText ns ts)) []))
    have l0 : ([] : List (Str × V)).length = 0 := rfl
    have ra : ReadAt H1 pl t ns ts := r
    have r1 := ra.put (o := .ins C dx (putF "text" (.str (webText ns ts)) [])) e0
    have r2 := r1.put (o := .ins C dx (putF "places" (.ref pl) (putF "text" (.str (webText ns ts)) []))) upd_same
    have r3 := r2.put (o := .ins C dx (putF "ties" (.ref t) (putF "places" (.ref pl) (putF "text" (.str (webText ns ts)) [])))) upd_same
    refine ⟨.str (webText ns ts), rfl, .ref x, rfl, x, C, dx, [], rfl, e0, T.cl, T.nT, by omega, .ref pl, rfl, .ref x, rfl, x, C, dx, _, rfl, upd_same, T.cl, T.nP, by omega, .ref t, rfl, .ref x, rfl, x, C, dx, _, rfl, upd_same, T.cl, T.nI, by omega, ?_⟩
    obtain ⟨q1, qs, q2, q3⟩ := id r3
    refine ⟨.ref pl, rfl, .ref t, rfl, pl, t, ns, ts, qs, rfl, g.fine, q1, q2, q3, fun d fa H5 s5 nl nd nf => ?_⟩
    have ex := s5 _ _ (upd_same (H := upd (upd H1 x (.ins C dx (putF "text" (.str (webText ns ts)) []))) x (.ins C dx (putF "places" (.ref pl) (putF "text" (.str (webText ns ts)) [])))) (a := x) (o := .ins C dx (putF "ties" (.ref t) (putF "places" (.ref pl) (putF "text" (.str (webText ns ts)) [])))))
    refine ⟨.ref x, rfl, x, C, dx, _, rfl, ex, T.cl, T.nD, by omega, q _ ⟨⟨dx, pl, t, d, fa, upd_same, (r3.keep s5).put ex, nl.put ex⟩, g⟩ fun b o hb e => ?_⟩
    rw [upd_ne hb]
    refine s5 _ _ ?_
    rw [upd_ne hb, upd_ne hb, upd_ne hb]
    exact s1 _ _ e
theorem scHasW : FnScope ["self", "value"] ["self", "value"] (defScope sHasW) := ⟨rfl, rfl, rfl, by decide +kernel, rfl, by decide +kernel, by decide +kernel⟩
theorem ok_hasW {f C : Addr} {fd : FuncData} {k : Nat} (F : Fun K "__contains__" "Web.__contains__" sHasW f fd) (T : TxtW K mg C) (B3 : Blt3 mg) : FnOk P w K mg base CX0 (k + 1) f fd ["self", "value"] (spHasW C) := by
  refine F.ok scHasW (fun vs H Q E h => ?_) (fun cdv A outer s H vs Q E hr h => ?_)
  · obtain ⟨x, z, ns, ts, rfl, _⟩ := h
    rfl
  · obtain ⟨x, z, ns, ts, rfl, wb, hz, q⟩ := h
    obtain ⟨⟨dx, pl, t, d, fa, h1, h2, h3⟩, g⟩ := wb
    have hu := hu_of hr
    refine ⟨_, pss_one (ps_ret (pe_and (pe_callB call_isi (by rfl) B3.isi PyProof.Rows.boot_isinstance (pa_cons (pv 1) (pa_cons (pe_bltn (v := .ty "str") (by rfl) B3.str (by decide +kernel) rfl) pa_nil)))
      (pe_one (pe_cmp (pc_din hu (pv 1) (pe_fld (pv 0) rfl)) rfl)))), ?_⟩
    refine ⟨.str z, rfl, .str z, .ty "str", .type "str", .type "str", true, rfl, .ty _, .base (.str z), kit_ty (by decide +kernel), true, rfl, ?_⟩
    have := h3.get hz
    exact ⟨.str z, rfl, .ref x, rfl, x, C, dx, _, _, rfl, h1, T.cl, T.nD, wfl_tied _ _ _ _, d, _, rfl, this, q⟩
theorem scFarBy : FnScope ["self", "place"] ["self", "place"] (defScope sFarBy) := ⟨rfl, rfl, rfl, by decide +kernel, rfl, by decide +kernel, by decide +kernel⟩
theorem ok_farby {f fA C : Addr} {fd fdA : FuncData} {k : Nat} (F : Fun K "far_by_place" "Web.far_by_place" sFarBy f fd) (T : TxtW K mg C) (GA : FnOk P w K mg base CX0 k fA fdA ["tied", "place"] spFars) (gA : mg "far_along" = some (.ref fA)) (kA : PySem.W.keepIn K (.ref fA) = true) (bA : Binds K fdA ["tied", "place"] []) : FnOk P w K mg base CX0 (k + 1) f fd ["self", "place"] (spFarBy C) := by
  refine F.ok scFarBy (fun vs H Q E h => ?_) (fun cdv A outer s H vs Q E hr h => ?_)
  · obtain ⟨x, p, ns, ts, rfl, _⟩ := h
    rfl
  · obtain ⟨x, p, ns, ts, rfl, wb, hp, q⟩ := h
    obtain ⟨⟨dx, pl, t, d, fa, h1, h2, h3⟩, g⟩ := wb
    refine ⟨_, pss_one (ps_ret (pe_call GA hr (by rfl) gA kA bA .nil pass0 (pa_cons (pe_fld (pv 0) rfl) (pa_cons (pv 1) pa_nil)))), ?_⟩
    exact ⟨.ref x, rfl, x, C, dx, _, _, rfl, h1, T.cl, T.nD, wfl_tied _ _ _ _, .str p, rfl, d, p, fa, ns, ts, rfl, h3, hp, g.nm, by have := g.few; omega, (fun n hn o ho => nbr_mem g.tie ho), q⟩
end
end Hw

set_option Elab.async false
set_option linter.all false
set_option maxRecDepth 100000
set_option maxHeartbeats 4000000
namespace Hw
open PySem L2 PyProof.Rows
/-! that the levels tell the least ways, and so the same both ways -/
def Reach (nb : Str → List Str) (p : Str) : Nat → Str → Prop
  | 0, y => y = p
  | n + 1, y => ∃ c, Reach nb p n c ∧ y ∈ nb c
theorem Reach.cons {nb : Str → List Str} (hs : ∀ a b, b ∈ nb a → a ∈ nb b) {p q : Str} (h : q ∈ nb p) : ∀ {n : Nat} {y : Str}, Reach nb q n y → Reach nb p (n + 1) y
  | 0, y, e => by
    have e : y = q := e
    subst e
    exact ⟨p, rfl, h⟩
  | n + 1, y, ⟨c, hc, hy⟩ => ⟨c, Reach.cons hs h hc, hy⟩
theorem Reach.symm {nb : Str → List Str} (hs : ∀ a b, b ∈ nb a → a ∈ nb b) {p : Str} : ∀ {n : Nat} {y : Str}, Reach nb p n y → Reach nb y n p
  | 0, y, e => by
    have e : y = p := e
    exact e.symm
  | n + 1, y, ⟨c, hc, hy⟩ => (Reach.symm hs hc).cons hs (hs c y hy)
theorem nbr_sym (ts : List Tie) (a b : Str) (h : b ∈ nbr ts a) : a ∈ nbr ts b := by
  obtain ⟨t, ht, hm⟩ := List.mem_flatMap.mp h
  refine List.mem_flatMap.mpr ⟨t, ht, ?_⟩
  rcases List.mem_append.mp hm with hm | hm
  · split at hm
    · rename_i e
      rw [List.mem_singleton.mp hm]
      exact List.mem_append_right _ (by rw [if_pos rfl, e]; exact List.mem_cons_self)
    · cases hm
  · split at hm
    · rename_i e
      rw [List.mem_singleton.mp hm]
      exact List.mem_append_left _ (by rw [if_pos rfl, e]; exact List.mem_cons_self)
    · cases hm
theorem lookF_app_l {far more : Far} {y : Str} (h : y ∈ far.map (·.1)) : lookF (far ++ more) y = lookF far y := by
  unfold lookF
  rw [List.find?_append]
  obtain ⟨p, hp, e⟩ := List.mem_map.mp h
  cases hf : far.find? (fun p => decide (p.1 = y)) with
  | some q => rfl
  | none => exact absurd (decide_eq_true e) (by have := List.find?_eq_none.mp hf p hp; simpa using this)
theorem lookF_app_r {far more : Far} {y : Str} (h : y ∉ far.map (·.1)) : lookF (far ++ more) y = lookF more y := by
  unfold lookF
  rw [List.find?_append]
  have hf : far.find? (fun p => decide (p.1 = y)) = none := List.find?_eq_none.mpr fun p hp e => h (List.mem_map.mpr ⟨p, hp, of_decide_eq_true e⟩)
  rw [hf]; rfl
theorem lookF_const {ys : List Str} {y : Str} {k : Nat} (h : y ∈ ys) : lookF (ys.map fun z => (z, k)) y = k := by
  induction ys with
  | nil => cases h
  | cons z ys ih =>
    unfold lookF at ih ⊢
    rw [List.map_cons]
    by_cases e : z = y
    · rw [List.find?_cons_of_pos (by exact decide_eq_true e)]; rfl
    · rw [List.find?_cons_of_neg (by simpa using e)]
      rcases List.mem_cons.mp h with rfl | h
      · exact absurd rfl e
      · exact ih h
/-- while a level is made: old ones, new ones, from those that were looked at -/
structure Mid (far0 : Far) (i : Nat) (S : Str → Prop) (s : Far × List Str) : Prop where
  eq : s.1 = far0 ++ s.2.map fun y => (y, i + 1)
  mem : ∀ y, y ∈ s.2 ↔ y ∉ far0.map (·.1) ∧ S y
theorem map_keys (ys : List Str) (k : Nat) : (ys.map fun y => (y, k)).map (·.1) = ys := by
  rw [List.map_map]
  exact List.map_id' ys
theorem Mid.keys {far0 : Far} {i : Nat} {S : Str → Prop} {s : Far × List Str} (m : Mid far0 i S s) (y : Str) : y ∈ s.1.map (·.1) ↔ y ∈ far0.map (·.1) ∨ y ∈ s.2 := by
  rw [m.eq, List.map_append, List.mem_append, map_keys]
theorem Mid.stepO {far0 : Far} {i : Nat} {S : Str → Prop} {s : Far × List Str} (m : Mid far0 i S s) {one o : Str} (h1 : one ∈ far0.map (·.1)) (hl : lookF far0 one = i) : Mid far0 i (fun y => S y ∨ y = o) (stepO one s o) := by
  have hlk : lookF s.1 one = i := by rw [m.eq, lookF_app_l h1, hl]
  unfold Hw.stepO
  by_cases h : o ∈ s.1.map (·.1)
  · rw [if_pos h]
    refine ⟨m.eq, fun y => ⟨fun hy => ⟨((m.mem y).mp hy).1, .inl ((m.mem y).mp hy).2⟩, fun ⟨n, hy⟩ => ?_⟩⟩
    rcases hy with hy | rfl
    · exact (m.mem y).mpr ⟨n, hy⟩
    · rcases (m.keys y).mp h with h | h
      · exact absurd h n
      · exact h
  · rw [if_neg h, hlk]
    refine ⟨?_, fun y => ?_⟩
    · show s.1 ++ [(o, i + 1)] = far0 ++ (s.2 ++ [o]).map _
      rw [List.map_append, ← List.append_assoc, ← m.eq]; rfl
    · show y ∈ s.2 ++ [o] ↔ _
      rw [List.mem_append, List.mem_singleton, m.mem y]
      constructor
      · rintro (⟨a, b⟩ | rfl)
        · exact ⟨a, .inl b⟩
        · exact ⟨fun z => h ((m.keys y).mpr (.inl z)), .inr rfl⟩
      · rintro ⟨a, b | b⟩
        · exact .inl ⟨a, b⟩
        · exact .inr b
theorem Mid.congr {far0 : Far} {i : Nat} {S T : Str → Prop} {s : Far × List Str} (m : Mid far0 i S s) (h : ∀ y, S y ↔ T y) : Mid far0 i T s := ⟨m.eq, fun y => by rw [m.mem y, h y]⟩
theorem Mid.foldO {far0 : Far} {i : Nat} {one : Str} (h1 : one ∈ far0.map (·.1)) (hl : lookF far0 one = i) : ∀ {os : List Str} {S : Str → Prop} {s : Far × List Str}, Mid far0 i S s → Mid far0 i (fun y => S y ∨ y ∈ os) (os.foldl (Hw.stepO one) s)
  | [], S, s, m => m.congr fun y => by simp
  | o :: os, S, s, m => ((m.stepO h1 hl).foldO h1 hl (os := os)).congr fun y => by simp [or_assoc]
theorem Mid.foldE {far0 : Far} {i : Nat} {nb : Str → List Str} : ∀ {es : List Str} {S : Str → Prop} {s : Far × List Str}, (∀ e ∈ es, e ∈ far0.map (·.1) ∧ lookF far0 e = i) → Mid far0 i S s → Mid far0 i (fun y => S y ∨ ∃ e ∈ es, y ∈ nb e) (es.foldl (stepE nb) s)
  | [], S, s, _, m => m.congr fun y => by simp
  | e :: es, S, s, h, m => by
    have m1 : Mid far0 i (fun y => S y ∨ y ∈ nb e) (stepE nb s e) := m.foldO (h e List.mem_cons_self).1 (h e List.mem_cons_self).2
    exact (Mid.foldE (fun x hx => h x (List.mem_cons_of_mem _ hx)) m1).congr fun y => by simp [or_assoc]
/-- what is known behind i levels -/
structure Least (nb : Str → List Str) (p : Str) (i : Nat) (s : Far × List Str) : Prop where
  mem : ∀ y, y ∈ s.1.map (·.1) ↔ ∃ n, n ≤ i ∧ Reach nb p n y
  way : ∀ y, y ∈ s.1.map (·.1) → Reach nb p (lookF s.1 y) y ∧ ∀ n, Reach nb p n y → lookF s.1 y ≤ n
  edge : ∀ y, y ∈ s.2 ↔ y ∈ s.1.map (·.1) ∧ lookF s.1 y = i
theorem Least.lvl {nb : Str → List Str} {p : Str} {i : Nat} {s : Far × List Str} (l : Least nb p i s) : Least nb p (i + 1) (lvl nb s) := by
  have m : Mid s.1 i (fun y => False ∨ ∃ e ∈ s.2, y ∈ nb e) (Hw.lvl nb s) := Mid.foldE (fun e he => (l.edge e).mp he) ⟨by simp, fun y => by simp⟩
  have far : ∀ y, y ∈ s.1.map (·.1) → lookF (Hw.lvl nb s).1 y = lookF s.1 y := fun y hy => by rw [m.eq, lookF_app_l hy]
  have new : ∀ y, y ∈ (Hw.lvl nb s).2 → lookF (Hw.lvl nb s).1 y = i + 1 := fun y hy => by rw [m.eq, lookF_app_r ((m.mem y).mp hy).1, lookF_const hy]
  have le : ∀ y, y ∈ s.1.map (·.1) → lookF s.1 y ≤ i := fun y hy => by
    obtain ⟨n, hn, hr⟩ := (l.mem y).mp hy
    exact Nat.le_trans ((l.way y hy).2 n hr) hn
  have reach : ∀ y, y ∈ (Hw.lvl nb s).2 → Reach nb p (i + 1) y := fun y hy => by
    rcases ((m.mem y).mp hy).2 with f | ⟨e, he, hye⟩
    · exact f.elim
    · obtain ⟨e1, e2⟩ := (l.edge e).mp he
      have := (l.way e e1).1
      rw [e2] at this
      exact ⟨e, this, hye⟩
  have mem : ∀ y, y ∈ (Hw.lvl nb s).1.map (·.1) ↔ ∃ n, n ≤ i + 1 ∧ Reach nb p n y := fun y => by
    rw [m.keys y]
    constructor
    · rintro (h | h)
      · obtain ⟨n, hn, hr⟩ := (l.mem y).mp h
        exact ⟨n, by omega, hr⟩
      · exact ⟨i + 1, Nat.le_refl _, reach y h⟩
    · rintro ⟨n, hn, hr⟩
      by_cases hni : n ≤ i
      · exact .inl ((l.mem y).mpr ⟨n, hni, hr⟩)
      · obtain rfl : n = i + 1 := by omega
        obtain ⟨c, hc, hy⟩ := hr
        have hcm := (l.mem c).mpr ⟨i, Nat.le_refl _, hc⟩
        by_cases hlt : lookF s.1 c = i
        · by_cases hyf : y ∈ s.1.map (·.1)
          · exact .inl hyf
          · exact .inr ((m.mem y).mpr ⟨hyf, .inr ⟨c, (l.edge c).mpr ⟨hcm, hlt⟩, hy⟩⟩)
        · have hl := le c hcm
          exact .inl ((l.mem y).mpr ⟨lookF s.1 c + 1, by omega, c, (l.way c hcm).1, hy⟩)
  refine ⟨mem, fun y hy => ?_, fun y => ?_⟩
  · rcases (m.keys y).mp hy with h | h
    · rw [far y h]; exact l.way y h
    · rw [new y h]
      refine ⟨reach y h, fun n hr => ?_⟩
      by_cases hni : n ≤ i
      · exact absurd ((l.mem y).mpr ⟨n, hni, hr⟩) ((m.mem y).mp h).1
      · omega
  · constructor
    · intro h
      exact ⟨(m.keys y).mpr (.inr h), new y h⟩
    · rintro ⟨h1, h2⟩
      rcases (m.keys y).mp h1 with h | h
      · rw [far y h] at h2
        have := le y h
        omega
      · exact h
theorem lev_least (nb : Str → List Str) (p : Str) : ∀ i, Least nb p i (lev nb p i)
  | 0 => by
    have e : lookF [(p, 0)] p = 0 := by unfold lookF; rw [List.find?_cons_of_pos (by exact decide_eq_true rfl)]; rfl
    refine ⟨fun y => ?_, fun y hy => ?_, fun y => ?_⟩
    · show y ∈ [p] ↔ _
      rw [List.mem_singleton]
      constructor
      · intro h; exact ⟨0, Nat.le_refl _, h⟩
      · rintro ⟨n, hn, hr⟩
        obtain rfl : n = 0 := by omega
        exact hr
    · have hy : y ∈ [p] := hy
      rw [List.mem_singleton.mp hy]
      show Reach nb p (lookF [(p, 0)] p) p ∧ ∀ n, Reach nb p n p → lookF [(p, 0)] p ≤ n
      rw [e]
      exact ⟨rfl, fun n _ => Nat.zero_le _⟩
    · show y ∈ [p] ↔ y ∈ [p] ∧ lookF [(p, 0)] y = 0
      constructor
      · intro h
        refine ⟨h, ?_⟩
        rw [List.mem_singleton.mp h]; exact e
      · exact fun h => h.1
  | i + 1 => (lev_least nb p i).lvl
/-- all ways that there are -/
theorem Bfs.least {nb : Str → List Str} {p : Str} {far : Far} (h : Bfs nb p far) : (∀ y, y ∈ far.map (·.1) ↔ ∃ n, Reach nb p n y) ∧ ∀ y, y ∈ far.map (·.1) → Reach nb p (lookF far y) y ∧ ∀ n, Reach nb p n y → lookF far y ≤ n := by
  obtain ⟨i, h⟩ := h
  have l := lev_least nb p i
  rw [h] at l
  refine ⟨fun y => ⟨fun hy => ?_, fun ⟨n, hr⟩ => ?_⟩, l.way⟩
  · obtain ⟨n, _, hr⟩ := (l.mem y).mp hy
    exact ⟨n, hr⟩
  · have l2 := lev_least nb p (i + n)
    rw [lev_stay h n] at l2
    exact (l2.mem y).mpr ⟨n, by omega, hr⟩
/-- how far, told as a value -/
def farV (far : Far) (y : Str) : V := if y ∈ far.map (·.1) then .int (lookF far y : Nat) else .non
theorem far_sym {nb : Str → List Str} (hs : ∀ a b, b ∈ nb a → a ∈ nb b) {p q : Str} {far far' : Far} (h : Bfs nb p far) (h' : Bfs nb q far') : farV far q = farV far' p := by
  obtain ⟨m, w⟩ := h.least
  obtain ⟨m', w'⟩ := h'.least
  unfold farV
  by_cases hq : q ∈ far.map (·.1)
  · obtain ⟨n, hr⟩ := (m q).mp hq
    have hp : p ∈ far'.map (·.1) := (m' p).mpr ⟨n, hr.symm hs⟩
    rw [if_pos hq, if_pos hp]
    have a := (w q hq).2 _ ((w' p hp).1.symm hs)
    have b := (w' p hp).2 _ ((w q hq).1.symm hs)
    rw [Nat.le_antisymm a b]
  · have hp : p ∉ far'.map (·.1) := fun hp => by
      obtain ⟨n, hr⟩ := (m' p).mp hp
      exact hq ((m q).mpr ⟨n, hr.symm hs⟩)
    rw [if_neg hq, if_neg hp]
end Hw

set_option Elab.async false
set_option linter.all false
set_option maxRecDepth 100000
set_option maxHeartbeats 4000000
namespace Hw
open PySem L2 PyProof.Rows
/-! distances are below the number of places -/
theorem Least.mid {nb : Str → List Str} {p : Str} {i : Nat} {s : Far × List Str} (l : Least nb p i s) : Mid s.1 i (fun y => False ∨ ∃ e ∈ s.2, y ∈ nb e) (Hw.lvl nb s) := Mid.foldE (fun e he => (l.edge e).mp he) ⟨by simp, fun y => by simp⟩
theorem lev_short (nb : Str → List Str) (p : Str) : ∀ i, ∀ y ∈ (lev nb p i).1.map (·.1), lookF (lev nb p i).1 y + 1 ≤ (lev nb p i).1.length
  | 0, y, hy => by
    have hy : y ∈ [p] := hy
    rw [List.mem_singleton.mp hy]
    show lookF [(p, 0)] p + 1 ≤ 1
    unfold lookF
    rw [List.find?_cons_of_pos (by exact decide_eq_true rfl)]
    exact Nat.le_refl _
  | i + 1, y, hy => by
    have l := lev_least nb p i
    have m := l.mid
    have hy : y ∈ (lvl nb (lev nb p i)).1.map (·.1) := hy
    show lookF (lvl nb (lev nb p i)).1 y + 1 ≤ (lvl nb (lev nb p i)).1.length
    rcases (m.keys y).mp hy with h | h
    · have := lev_short nb p i y h
      rw [m.eq, lookF_app_l h, List.length_append]; omega
    · obtain ⟨n, f | ⟨e, he, _⟩⟩ := (m.mem y).mp h
      · exact f.elim
      · obtain ⟨e1, e2⟩ := (l.edge e).mp he
        have := lev_short nb p i e e1
        have pos : 0 < (lvl nb (lev nb p i)).2.length := List.length_pos_of_mem h
        rw [m.eq, lookF_app_r n, lookF_const h, List.length_append, List.length_map]; omega
theorem Bfs.short {nb : Str → List Str} {p : Str} {far : Far} (h : Bfs nb p far) {y : Str} (hy : y ∈ far.map (·.1)) : lookF far y + 1 ≤ far.length := by
  obtain ⟨i, h⟩ := h
  have := lev_short nb p i
  rw [h] at this
  exact this y hy
/-! data that are shown in few signs -/
structure Tame (w : Nat) (d : PyData) : Prop where
  lay : d.canLay0 = true
  sh : d.showable = true
  short : d.intsShort 13 = true
  dp : d.depth ≤ 10
  wt : d.weight ≤ w
theorem Tame.mono {w w' : Nat} {d : PyData} (t : Tame w d) (h : w ≤ w') : Tame w' d := ⟨t.lay, t.sh, t.short, t.dp, Nat.le_trans t.wt h⟩
theorem Tame.len {w : Nat} {d : PyData} (t : Tame w d) (h : w ≤ 2 ^ 20) : d.shown.length ≤ sizeLine := by
  have l : d.layable0 = true := by
    show (d.canLay0 && decide (d.depth ≤ 64) && decide (d.weight ≤ 2 ^ 20)) = true
    rw [t.lay, decide_eq_true (Nat.le_trans t.dp (by decide)), decide_eq_true (Nat.le_trans t.wt h)]; rfl
  have := PyProof.Rows.shown_le13 l t.short
  rw [sizeLine_eq]; omega
theorem tame_str {z : Str} (h : Nm z) : Tame 8 (.str z) := ⟨by rw [PyData.canLay0]; exact nm_ok h, by rw [PyData.showable], by rw [PyData.intsShort], by rw [PyData.depth]; decide, by rw [PyData.weight]; exact h.2.1⟩
theorem tame_non : Tame 8 .none := ⟨by rw [PyData.canLay0], by rw [PyData.showable], by rw [PyData.intsShort], by rw [PyData.depth]; decide, by rw [PyData.weight]; decide⟩
theorem tame_int {n : Nat} (h : n ≤ 200) : Tame 8 (.int (n : Int)) := by
  have a : ((List.range 201).all fun n => decide ((PyData.int (n : Int)).shown.length ≤ 13) && decide ((PyData.int (n : Int)).weight ≤ 8)) = true := by decide +kernel
  have b := List.all_eq_true.mp a n (List.mem_range.mpr (by omega))
  simp only [Bool.and_eq_true, decide_eq_true_eq] at b
  have c : ((n : Int)).natAbs.log2 < 1920 := by
    have : ((n : Int)).natAbs = n := Int.natAbs_natCast n
    rw [this]
    by_cases h0 : n = 0
    · rw [h0]; decide
    · exact (Nat.log2_lt h0).mpr (Nat.lt_of_le_of_lt h (by exact Nat.lt_of_lt_of_le (by decide : 200 < 2 ^ 8) (Nat.pow_le_pow_right (by decide) (by decide))))
  exact ⟨by rw [PyData.canLay0], by rw [PyData.showable]; exact decide_eq_true c, by rw [PyData.intsShort]; exact decide_eq_true b.1, by rw [PyData.depth]; decide, b.2⟩
theorem tame_all {w : Nat} : ∀ {ds : List PyData}, (∀ d ∈ ds, Tame w d ∧ d.depth ≤ 5) → PyData.canLayAll0 ds = true ∧ PyData.showableAll ds = true ∧ PyData.intsShortAll 13 ds = true ∧ PyData.depthAll ds ≤ 5 ∧ PyData.weightAll ds ≤ ds.length * (w + 1)
  | [], _ => ⟨by rw [PyData.canLayAll0], by rw [PyData.showableAll], by rw [PyData.intsShortAll], by rw [PyData.depthAll]; decide, by rw [PyData.weightAll]; exact Nat.zero_le _⟩
  | d :: ds, h => by
    obtain ⟨t, hd⟩ := h d List.mem_cons_self
    obtain ⟨a, b, c, e, f⟩ := tame_all fun x hx => h x (List.mem_cons_of_mem _ hx)
    refine ⟨by rw [PyData.canLayAll0, t.lay, a]; rfl, by rw [PyData.showableAll, t.sh, b]; rfl, by rw [PyData.intsShortAll, t.short, c]; rfl, by rw [PyData.depthAll]; omega, ?_⟩
    rw [PyData.weightAll, List.length_cons, Nat.add_mul, Nat.one_mul]
    have := t.wt
    omega
theorem tame_tup {w : Nat} {ds : List PyData} (h : ∀ d ∈ ds, Tame w d ∧ d.depth ≤ 5) : Tame (ds.length * (w + 1)) (.tuple ds) ∧ (PyData.tuple ds).depth ≤ PyData.depthAll ds + 1 := by
  obtain ⟨a, b, c, e, f⟩ := tame_all h
  exact ⟨⟨by rw [PyData.canLay0]; exact a, by rw [PyData.showable]; exact b, by rw [PyData.intsShort]; exact c, by rw [PyData.depth]; omega, by rw [PyData.weight]; exact f⟩, by rw [PyData.depth]; exact Nat.le_refl _⟩
theorem tame_lst {w : Nat} {ds : List PyData} (h : ∀ d ∈ ds, Tame w d ∧ d.depth ≤ 5) : Tame (ds.length * (w + 1)) (.list ds) := by
  obtain ⟨a, b, c, e, f⟩ := tame_all h
  exact ⟨by rw [PyData.canLay0]; exact a, by rw [PyData.showable]; exact b, by rw [PyData.intsShort]; exact c, by rw [PyData.depth]; omega, by rw [PyData.weight]; exact f⟩
/-- a pair of a name and a number -/
theorem tame_pair {z : Str} {n : Nat} (h : Nm z) (hn : n ≤ 200) : Tame 18 (.tuple [.str z, .int (n : Int)]) ∧ (PyData.tuple [.str z, .int (n : Int)]).depth ≤ 5 := by
  have t := tame_tup (w := 8) (ds := [.str z, .int (n : Int)]) fun d hd => by
    rcases List.mem_cons.mp hd with rfl | hd
    · exact ⟨tame_str h, by rw [PyData.depth]; decide⟩
    · rw [List.mem_singleton.mp hd]; exact ⟨tame_int hn, by rw [PyData.depth]; decide⟩
  exact ⟨t.1, by simp [PyData.depth, PyData.depthAll]⟩
/-- the text that is told of data -/
theorem repr_tame {X : Cx} {K : PySem.W.Frag} {w : Nat} {x : V} {d : PyData} {H : Hp} {Q : VK} (h : Dp K H x d) (t : Tame w d) (hw : w ≤ 2 ^ 20) (q : Q (.str d.shown) H) : rRepr K [x] H Q := ⟨x, d, rfl, .inl h, t.sh, Nat.le_trans t.dp (by decide), t.len hw, q⟩
end Hw

set_option Elab.async false
set_option linter.all false
set_option maxRecDepth 100000
set_option maxHeartbeats 1000000
namespace Hw
open PySem L2
/-! woods: ties + parts = places exactly if taking off ends leaves nothing -/
noncomputable section
open Classical
abbrev NB (ts : List Tie) := nbr ts
theorem mem_nbr {ts : List Tie} {u v : Str} : v ∈ nbr ts u ↔ ∃ t ∈ ts, (t.1 = u ∧ t.2 = v) ∨ (t.2 = u ∧ t.1 = v) := by
  unfold nbr
  rw [List.mem_flatMap]
  constructor
  · rintro ⟨t, ht, hm⟩
    refine ⟨t, ht, ?_⟩
    rcases List.mem_append.mp hm with hm | hm
    · split at hm
      · rename_i e
        exact .inl ⟨e, (List.mem_singleton.mp hm).symm⟩
      · cases hm
    · split at hm
      · rename_i e
        exact .inr ⟨e, (List.mem_singleton.mp hm).symm⟩
      · cases hm
  · rintro ⟨t, ht, ⟨e1, e2⟩ | ⟨e1, e2⟩⟩
    · exact ⟨t, ht, List.mem_append_left _ (by rw [if_pos e1, e2]; exact List.mem_cons_self)⟩
    · exact ⟨t, ht, List.mem_append_right _ (by rw [if_pos e1, e2]; exact List.mem_cons_self)⟩
def Conn (ts : List Tie) (u v : Str) : Prop := ∃ n, Reach (nbr ts) u n v
theorem Conn.refl {ts : List Tie} (u : Str) : Conn ts u u := ⟨0, rfl⟩
theorem Conn.symm {ts : List Tie} {u v : Str} (h : Conn ts u v) : Conn ts v u := by
  obtain ⟨n, h⟩ := h
  exact ⟨n, h.symm (nbr_sym ts)⟩
theorem Conn.step {ts : List Tie} {u v w : Str} (h : Conn ts u v) (e : w ∈ nbr ts v) : Conn ts u w := by
  obtain ⟨n, h⟩ := h
  exact ⟨n + 1, v, h, e⟩
theorem Conn.trans {ts : List Tie} {u v w : Str} (h : Conn ts u v) (h' : Conn ts v w) : Conn ts u w := by
  obtain ⟨n, h'⟩ := h'
  induction n generalizing w with
  | zero =>
    have e : w = v := h'
    rw [e]; exact h
  | succ n ih =>
    obtain ⟨c, hc, hw⟩ := h'
    exact (ih hc).step hw
theorem least_nat {P : Nat → Prop} (h : ∃ n, P n) : ∃ n, P n ∧ ∀ m, P m → n ≤ m := by
  obtain ⟨n, hn⟩ := h
  induction n using Nat.strongRecOn with
  | ind n ih =>
    by_cases e : ∃ m, m < n ∧ P m
    · obtain ⟨m, hm, pm⟩ := e
      exact ih m hm pm
    · exact ⟨n, hn, fun m pm => Nat.le_of_not_lt fun hl => e ⟨m, hl, pm⟩⟩
def rep (ns : List Str) (ts : List Tie) (v : Str) : Str := (ns.find? fun u => decide (Conn ts u v)).getD v
theorem rep_spec {ns : List Str} {ts : List Tie} {v : Str} (h : v ∈ ns) : rep ns ts v ∈ ns ∧ Conn ts (rep ns ts v) v := by
  unfold rep
  cases hf : ns.find? fun u => decide (Conn ts u v) with
  | none => exact absurd (decide_eq_true (Conn.refl v)) (by have := List.find?_eq_none.mp hf v h; simpa using this)
  | some u =>
    have := List.find?_some hf
    exact ⟨List.mem_of_find?_eq_some hf, of_decide_eq_true this⟩
theorem rep_eq {ns : List Str} {ts : List Tie} {u v : Str} (hu : u ∈ ns) (hv : v ∈ ns) (h : Conn ts u v) : rep ns ts u = rep ns ts v := by
  have e : (fun x => decide (Conn ts x u)) = fun x => decide (Conn ts x v) := by
    funext x
    exact decide_eq_decide.mpr ⟨fun a => a.trans h, fun a => a.trans h.symm⟩
  have hv' := rep_spec (ts := ts) hv
  unfold rep at *
  rw [e]
  cases hf : ns.find? fun x => decide (Conn ts x v) with
  | none => exact absurd (decide_eq_true (Conn.refl v)) (by have := List.find?_eq_none.mp hf v hv; simpa using this)
  | some w => rfl
theorem rep_rep {ns : List Str} {ts : List Tie} {v : Str} (h : v ∈ ns) : rep ns ts (rep ns ts v) = rep ns ts v := rep_eq (rep_spec h).1 h (rep_spec h).2
/-- what is asked of the web -/
structure Gr (ns : List Str) (ts : List Tie) : Prop where
  nd : ns.Nodup
  tnd : ts.Nodup
  tie : ∀ t ∈ ts, t.1 ∈ ns ∧ t.2 ∈ ns ∧ strLt t.1 t.2 = true
def lvOf (ns : List Str) (ts : List Tie) (v : Str) : Nat := if h : ∃ n, Reach (nbr ts) (rep ns ts v) n v ∧ ∀ m, Reach (nbr ts) (rep ns ts v) m v → n ≤ m then Classical.choose h else 0
theorem lv_spec {ns : List Str} {ts : List Tie} {v : Str} (hv : v ∈ ns) : Reach (nbr ts) (rep ns ts v) (lvOf ns ts v) v ∧ ∀ m, Reach (nbr ts) (rep ns ts v) m v → lvOf ns ts v ≤ m := by
  have h := least_nat (rep_spec (ts := ts) hv).2
  unfold lvOf
  rw [dif_pos h]
  exact Classical.choose_spec h
theorem Gr.nb {ns : List Str} {ts : List Tie} (g : Gr ns ts) {u v : Str} (h : v ∈ nbr ts u) : u ∈ ns ∧ v ∈ ns := by
  obtain ⟨t, ht, ⟨rfl, rfl⟩ | ⟨rfl, rfl⟩⟩ := mem_nbr.mp h
  · exact ⟨(g.tie t ht).1, (g.tie t ht).2.1⟩
  · exact ⟨(g.tie t ht).2.1, (g.tie t ht).1⟩
/-- the tie by which a place was reached -/
theorem par_ex {ns : List Str} {ts : List Tie} (g : Gr ns ts) {v : Str} (hv : v ∈ ns) (hr : rep ns ts v ≠ v) : ∃ t ∈ ts, ∃ c, ((t.1 = c ∧ t.2 = v) ∨ (t.2 = c ∧ t.1 = v)) ∧ lvOf ns ts c < lvOf ns ts v := by
  obtain ⟨h1, h2⟩ := lv_spec (ts := ts) hv
  cases hn : lvOf ns ts v with
  | zero =>
    rw [hn] at h1
    exact absurd (show v = rep ns ts v from h1).symm hr
  | succ k =>
    rw [hn] at h1 h2
    obtain ⟨c, hc, hvc⟩ := h1
    obtain ⟨t, ht, hh⟩ := mem_nbr.mp hvc
    have hcn := (g.nb hvc).1
    refine ⟨t, ht, c, hh, ?_⟩
    have e : rep ns ts c = rep ns ts v := rep_eq hcn hv (Conn.step (.refl c) hvc)
    have := (lv_spec (ts := ts) hcn).2 k (by rw [e]; exact hc)
    omega
def pt (ns : List Str) (ts : List Tie) (v : Str) : Tie := if h : ∃ t ∈ ts, ∃ c, ((t.1 = c ∧ t.2 = v) ∨ (t.2 = c ∧ t.1 = v)) ∧ lvOf ns ts c < lvOf ns ts v then Classical.choose h else (v, v)
theorem pt_spec {ns : List Str} {ts : List Tie} (g : Gr ns ts) {v : Str} (hv : v ∈ ns) (hr : rep ns ts v ≠ v) : pt ns ts v ∈ ts ∧ ∃ c, (((pt ns ts v).1 = c ∧ (pt ns ts v).2 = v) ∨ ((pt ns ts v).2 = c ∧ (pt ns ts v).1 = v)) ∧ lvOf ns ts c < lvOf ns ts v := by
  have h := par_ex g hv hr
  unfold pt
  rw [dif_pos h]
  exact Classical.choose_spec h
def reps (ns : List Str) (ts : List Tie) : List Str := ns.filter fun v => decide (rep ns ts v = v)
def nonreps (ns : List Str) (ts : List Tie) : List Str := ns.filter fun v => !decide (rep ns ts v = v)
theorem part_len {α : Type} (p : α → Bool) (l : List α) : l.length = (l.filter p).length + (l.filter fun x => !p x).length := by
  induction l with
  | nil => rfl
  | cons x l ih =>
    rw [List.filter_cons, List.filter_cons]
    cases p x with
    | true => simp; omega
    | false => simp; omega
theorem nodup_map_on {α β : Type} {f : α → β} : ∀ {l : List α}, l.Nodup → (∀ x ∈ l, ∀ y ∈ l, f x = f y → x = y) → (l.map f).Nodup
  | [], _, _ => List.nodup_nil
  | x :: l, h, hf => by
    obtain ⟨h1, h2⟩ := List.nodup_cons.mp h
    rw [List.map_cons]
    refine List.nodup_cons.mpr ⟨fun m => ?_, nodup_map_on h2 fun a ha b hb => hf a (List.mem_cons_of_mem _ ha) b (List.mem_cons_of_mem _ hb)⟩
    obtain ⟨y, hy, e⟩ := List.mem_map.mp m
    exact h1 ((hf y (List.mem_cons_of_mem _ hy) x List.mem_cons_self e) ▸ hy)
theorem len_sub {α : Type} {l m : List α} (h : l.Nodup) (hs : ∀ x ∈ l, x ∈ m) : l.length ≤ m.length := by
  induction l generalizing m with
  | nil => exact Nat.zero_le _
  | cons x l ih =>
    obtain ⟨h1, h2⟩ := List.nodup_cons.mp h
    obtain ⟨a, b, rfl⟩ := List.append_of_mem (hs x List.mem_cons_self)
    have := ih (m := a ++ b) h2 fun y hy => by
      have := hs y (List.mem_cons_of_mem _ hy)
      rcases List.mem_append.mp this with h | h
      · exact List.mem_append_left _ h
      · rcases List.mem_cons.mp h with rfl | h
        · exact absurd hy h1
        · exact List.mem_append_right _ h
    simp only [List.length_append, List.length_cons] at this ⊢
    omega
theorem all_of_len {α : Type} {l m : List α} (h : l.Nodup) (hs : ∀ x ∈ l, x ∈ m) (hl : m.length ≤ l.length) (x : α) (hx : x ∈ m) : x ∈ l := by
  by_cases hm : x ∈ l
  · exact hm
  · have := len_sub (l := x :: l) (m := m) (List.nodup_cons.mpr ⟨hm, h⟩) fun y hy => by
      rcases List.mem_cons.mp hy with rfl | hy
      · exact hx
      · exact hs y hy
    rw [List.length_cons] at this
    omega
theorem pts_nodup {ns : List Str} {ts : List Tie} (g : Gr ns ts) : ((nonreps ns ts).map (pt ns ts)).Nodup := by
  refine nodup_map_on (g.nd.filter _) fun v hv w hw e => ?_
  obtain ⟨v1, v2⟩ := List.mem_filter.mp hv
  obtain ⟨w1, w2⟩ := List.mem_filter.mp hw
  have v2 : rep ns ts v ≠ v := by simpa using v2
  have w2 : rep ns ts w ≠ w := by simpa using w2
  obtain ⟨_, c, hc, lc⟩ := pt_spec g v1 v2
  obtain ⟨_, d, hd, ld⟩ := pt_spec g w1 w2
  rw [← e] at hd
  rcases hc with ⟨c1, c2⟩ | ⟨c1, c2⟩ <;> rcases hd with ⟨d1, d2⟩ | ⟨d1, d2⟩
  · exact c2.symm.trans d2
  · have a : c = w := c1.symm.trans d2
    have b : d = v := d1.symm.trans c2
    rw [a] at lc; rw [b] at ld; omega
  · have a : c = w := c1.symm.trans d2
    have b : d = v := d1.symm.trans c2
    rw [a] at lc; rw [b] at ld; omega
  · exact c2.symm.trans d2
theorem pts_sub {ns : List Str} {ts : List Tie} (g : Gr ns ts) : ∀ t ∈ (nonreps ns ts).map (pt ns ts), t ∈ ts := by
  intro t ht
  obtain ⟨v, hv, rfl⟩ := List.mem_map.mp ht
  obtain ⟨v1, v2⟩ := List.mem_filter.mp hv
  exact (pt_spec g v1 (by simpa using v2)).1
/-- there are never too few ties -/
theorem ties_ge {ns : List Str} {ts : List Tie} (g : Gr ns ts) : ns.length ≤ ts.length + (reps ns ts).length := by
  have h1 := len_sub (pts_nodup g) (pts_sub g)
  have h2 := part_len (fun v => decide (rep ns ts v = v)) ns
  rw [List.length_map] at h1
  show ns.length ≤ ts.length + (ns.filter _).length
  have : (nonreps ns ts).length = (ns.filter fun v => !decide (rep ns ts v = v)).length := rfl
  omega
/-- as many as needed: each is one by which a place was reached -/
theorem ties_par {ns : List Str} {ts : List Tie} (g : Gr ns ts) (h : ts.length + (reps ns ts).length = ns.length) : ∀ t ∈ ts, ∃ v ∈ ns, rep ns ts v ≠ v ∧ pt ns ts v = t := by
  intro t ht
  have h2 := part_len (fun v => decide (rep ns ts v = v)) ns
  have e1 : (reps ns ts).length = (ns.filter fun v => decide (rep ns ts v = v)).length := rfl
  have e2 : (nonreps ns ts).length = (ns.filter fun v => !decide (rep ns ts v = v)).length := rfl
  have := all_of_len (pts_nodup g) (pts_sub g) (by rw [List.length_map]; omega) t ht
  obtain ⟨v, hv, e⟩ := List.mem_map.mp this
  obtain ⟨v1, v2⟩ := List.mem_filter.mp hv
  exact ⟨v, v1, by simpa using v2, e⟩
end
end Hw

set_option Elab.async false
set_option linter.all false
set_option maxRecDepth 100000
set_option maxHeartbeats 1000000
namespace Hw
open PySem L2
def esIn (ts : List Tie) (S : List Str) : List Tie := ts.filter fun t => decide (t.1 ∈ S) && decide (t.2 ∈ S)
def peel1 (ts : List Tie) (S : List Str) : List Str := S.filter fun p => decide (1 < (nbr (esIn ts S) p).length)
def PP (ns : List Str) (ts : List Tie) : Nat → List Str
  | 0 => ns
  | i + 1 => peel1 ts (PP ns ts i)
theorem mem_esIn {ts : List Tie} {S : List Str} {t : Tie} : t ∈ esIn ts S ↔ t ∈ ts ∧ t.1 ∈ S ∧ t.2 ∈ S := by
  unfold esIn
  rw [List.mem_filter, Bool.and_eq_true, decide_eq_true_iff, decide_eq_true_iff]
theorem esIn_sub {ts : List Tie} {S S' : List Str} (h : ∀ x ∈ S', x ∈ S) : ((esIn ts S).filter fun t => decide (t.1 ∈ S') && decide (t.2 ∈ S')) = esIn ts S' := by
  unfold esIn
  rw [List.filter_filter]
  refine List.filter_congr fun t _ => ?_
  rw [Bool.eq_iff_iff]
  simp only [Bool.and_eq_true, decide_eq_true_iff]
  exact ⟨fun a => a.1, fun a => ⟨a, h _ a.1, h _ a.2⟩⟩
theorem deg_eq {v : Str} : ∀ {E : List Tie}, (∀ t ∈ E, t.1 ≠ t.2) → (nbr E v).length = (E.filter fun t => decide (t.1 = v ∨ t.2 = v)).length
  | [], _ => rfl
  | t :: E, h => by
    have ih := deg_eq (v := v) fun u hu => h u (List.mem_cons_of_mem _ hu)
    have hn := h t List.mem_cons_self
    show (((if t.1 = v then [t.2] else []) ++ (if t.2 = v then [t.1] else [])) ++ nbr E v).length = _
    rw [List.length_append, ih, List.filter_cons]
    by_cases h1 : t.1 = v
    · have h2 : ¬ t.2 = v := fun e => hn (h1.trans e.symm)
      rw [if_pos h1, if_neg h2, if_pos (by exact decide_eq_true (.inl h1))]
      simp; omega
    · by_cases h2 : t.2 = v
      · rw [if_neg h1, if_pos h2, if_pos (by exact decide_eq_true (.inr h2))]
        simp; omega
      · rw [if_neg h1, if_neg h2, if_neg (by simp [h1, h2])]
        simp
theorem two_in {α : Type} {l : List α} (hn : l.Nodup) (h : 1 < l.length) : ∃ x ∈ l, ∃ y ∈ l, x ≠ y := by
  match l, hn, h with
  | x :: y :: r, hn, _ =>
    exact ⟨x, List.mem_cons_self, y, List.mem_cons_of_mem _ List.mem_cons_self, fun e => (List.nodup_cons.mp hn).1 (by rw [e]; exact List.mem_cons_self)⟩
theorem in_two {α : Type} {l : List α} {x y : α} (hx : x ∈ l) (hy : y ∈ l) (h : x ≠ y) : 1 < l.length := by
  have := len_sub (l := [x, y]) (m := l) (by simp [h]) fun z hz => by
    rcases List.mem_cons.mp hz with rfl | hz
    · exact hx
    · rw [List.mem_singleton.mp hz]; exact hy
  exact this
theorem ex_max {α : Type} {R : α → α → Prop} (tr : ∀ a b c, R a b → R b c → R a c) (irr : ∀ a, ¬ R a a) : ∀ {l : List α}, l ≠ [] → ∃ x ∈ l, ∀ y ∈ l, ¬ R x y
  | [], h => absurd rfl h
  | [a], _ => ⟨a, List.mem_cons_self, fun y hy => by rw [List.mem_singleton.mp hy]; exact irr a⟩
  | a :: b :: l, _ => by
    obtain ⟨x, hx, h⟩ := ex_max tr irr (l := b :: l) (fun z => nomatch z)
    by_cases e : R x a
    · exact ⟨a, List.mem_cons_self, fun y hy => by
        rcases List.mem_cons.mp hy with rfl | hy
        · exact irr _
        · exact fun z => h y hy (tr _ _ _ e z)⟩
    · exact ⟨x, List.mem_cons_of_mem _ hx, fun y hy => by
        rcases List.mem_cons.mp hy with rfl | hy
        · exact e
        · exact h y hy⟩
theorem filter_lt {α : Type} {p : α → Bool} {l : List α} (h : l.filter p ≠ l) : (l.filter p).length < l.length := by
  rcases Nat.lt_or_ge (l.filter p).length l.length with a | a
  · exact a
  · exact absurd ((List.filter_sublist (p := p) (l := l)).eq_of_length (Nat.le_antisymm (List.length_filter_le _ _) a)) h
theorem PP_sub {ns : List Str} {ts : List Tie} {i : Nat} : ∀ {k : Nat} {x : Str}, x ∈ PP ns ts (i + k) → x ∈ PP ns ts i
  | 0, _, h => h
  | k + 1, x, h => PP_sub (k := k) (List.mem_filter.mp (show x ∈ peel1 ts (PP ns ts (i + k)) from h)).1
theorem PP_stay {ns : List Str} {ts : List Tie} {i : Nat} (h : PP ns ts (i + 1) = PP ns ts i) : ∀ k, PP ns ts (i + k) = PP ns ts i
  | 0 => rfl
  | k + 1 => by
    show peel1 ts (PP ns ts (i + k)) = _
    rw [PP_stay h k]
    exact h
theorem PP_stuck (ns : List Str) (ts : List Tie) : ∃ i, i ≤ ns.length ∧ PP ns ts (i + 1) = PP ns ts i := by
  by_cases h : ∃ i, i ≤ ns.length ∧ PP ns ts (i + 1) = PP ns ts i
  · exact h
  · exfalso
    have a : ∀ i, i ≤ ns.length + 1 → (PP ns ts i).length + i ≤ ns.length := by
      intro i
      induction i with
      | zero => intro _; exact Nat.le_refl _
      | succ i ih =>
        intro hi
        have h1 := ih (by omega)
        have h2 : (PP ns ts (i + 1)).length < (PP ns ts i).length := filter_lt fun e => h ⟨i, by omega, e⟩
        omega
    have := a (ns.length + 1) (Nat.le_refl _)
    omega
theorem Gr.ne {ns : List Str} {ts : List Tie} (g : Gr ns ts) : ∀ t ∈ ts, t.1 ≠ t.2 := fun t ht => strLt_ne (g.tie t ht).2.2
/-- woods are eaten up -/
theorem peel_none {ns : List Str} {ts : List Tie} (g : Gr ns ts) (h : ts.length + (reps ns ts).length = ns.length) : PP ns ts (ns.length + 1) = [] := by
  obtain ⟨i, hi, hs⟩ := PP_stuck ns ts
  have e : PP ns ts (ns.length + 1) = PP ns ts i := by
    have := PP_stay hs (ns.length + 1 - i)
    rw [show i + (ns.length + 1 - i) = ns.length + 1 by omega] at this
    exact this
  rw [e]
  by_cases hne : PP ns ts i = []
  · exact hne
  · exfalso
    obtain ⟨v, hv, hmax⟩ := ex_max (R := fun a b => lvOf ns ts a < lvOf ns ts b) (fun a b c => Nat.lt_trans) (fun a => Nat.lt_irrefl _) hne
    have hd : 1 < (nbr (esIn ts (PP ns ts i)) v).length := by
      have hv' := hv
      rw [← hs] at hv'
      exact of_decide_eq_true (List.mem_filter.mp (show v ∈ peel1 ts (PP ns ts i) from hv')).2
    rw [deg_eq fun t ht => g.ne t (mem_esIn.mp ht).1] at hd
    obtain ⟨t, ht, u, hu, hne2⟩ := two_in ((g.tnd.filter _).filter _) hd
    have key : ∀ t ∈ (esIn ts (PP ns ts i)).filter (fun t => decide (t.1 = v ∨ t.2 = v)), t = pt ns ts v := by
      intro t ht
      obtain ⟨h1, h2⟩ := List.mem_filter.mp ht
      obtain ⟨h3, h4, h5⟩ := mem_esIn.mp h1
      have h2 : t.1 = v ∨ t.2 = v := of_decide_eq_true h2
      obtain ⟨w, hw, hrw, hpw⟩ := ties_par g h t h3
      obtain ⟨_, c, hc, lc⟩ := pt_spec g hw hrw
      rw [hpw] at hc
      by_cases hwv : w = v
      · rw [← hwv]; exact hpw.symm
      · exfalso
        -- then v is the one by which w was reached
        rcases hc with ⟨c1, c2⟩ | ⟨c1, c2⟩
        · have hcv : c = v := by
            rcases h2 with h2 | h2
            · exact c1.symm.trans h2
            · exact absurd (c2.symm.trans h2) hwv
          have hw' : w ∈ PP ns ts i := by rw [← c2]; exact h5
          exact hmax w hw' (by rw [← hcv]; exact lc)
        · have hcv : c = v := by
            rcases h2 with h2 | h2
            · exact absurd (c2.symm.trans h2) hwv
            · exact c1.symm.trans h2
          have hw' : w ∈ PP ns ts i := by rw [← c2]; exact h4
          exact hmax w hw' (by rw [← hcv]; exact lc)
    exact hne2 ((key t ht).trans (key u hu).symm)
noncomputable section
open Classical
def rkOf (ns : List Str) (ts : List Tie) (v : Str) : Nat := if h : ∃ n, v ∉ PP ns ts n ∧ ∀ m, v ∉ PP ns ts m → n ≤ m then Classical.choose h else 0
theorem rk_spec {ns : List Str} {ts : List Tie} {L : Nat} (hL : PP ns ts L = []) (v : Str) : v ∉ PP ns ts (rkOf ns ts v) ∧ ∀ m, v ∉ PP ns ts m → rkOf ns ts v ≤ m := by
  have h := least_nat (P := fun n => v ∉ PP ns ts n) ⟨L, by rw [hL]; exact fun z => nomatch z⟩
  unfold rkOf
  rw [dif_pos h]
  exact Classical.choose_spec h
def kl (ns : List Str) (ts : List Tie) (u v : Str) : Prop := rkOf ns ts u < rkOf ns ts v ∨ (rkOf ns ts u = rkOf ns ts v ∧ strLt u v = true)
theorem kl_tr {ns : List Str} {ts : List Tie} (a b c : Str) (h : kl ns ts a b) (h' : kl ns ts b c) : kl ns ts a c := by
  rcases h with h | ⟨h, k⟩ <;> rcases h' with h' | ⟨h', k'⟩
  · exact .inl (Nat.lt_trans h h')
  · exact .inl (by omega)
  · exact .inl (by omega)
  · exact .inr ⟨h.trans h', strLt_tr k k'⟩
theorem kl_irr {ns : List Str} {ts : List Tie} (a : Str) : ¬ kl ns ts a a := by
  rintro (h | ⟨_, k⟩)
  · exact Nat.lt_irrefl _ h
  · rw [strLt_irr] at k; cases k
theorem kl_tri {ns : List Str} {ts : List Tie} {a b : Str} (h : a ≠ b) : kl ns ts a b ∨ kl ns ts b a := by
  unfold kl
  rcases Nat.lt_trichotomy (rkOf ns ts a) (rkOf ns ts b) with e | e | e
  · exact .inl (.inl e)
  · cases h1 : strLt a b with
    | true => exact .inl (.inr ⟨e, rfl⟩)
    | false =>
      cases h2 : strLt b a with
      | true => exact .inr (.inr ⟨e.symm, rfl⟩)
      | false => exact absurd (strLt_tri h1 h2) h
  · exact .inr (.inl e)
theorem kl_le {ns : List Str} {ts : List Tie} {a b : Str} (h : kl ns ts a b) : rkOf ns ts a ≤ rkOf ns ts b := by
  rcases h with h | ⟨h, _⟩ <;> omega
def lowEnd (ns : List Str) (ts : List Tie) (t : Tie) : Str := if kl ns ts t.1 t.2 then t.1 else t.2
theorem low_spec {ns : List Str} {ts : List Tie} {t : Tie} (h : t.1 ≠ t.2) : (lowEnd ns ts t = t.1 ∧ kl ns ts t.1 t.2) ∨ (lowEnd ns ts t = t.2 ∧ kl ns ts t.2 t.1) := by
  unfold lowEnd
  by_cases e : kl ns ts t.1 t.2
  · rw [if_pos e]; exact .inl ⟨rfl, e⟩
  · rw [if_neg e]
    rcases kl_tri (ns := ns) (ts := ts) h with a | a
    · exact absurd a e
    · exact .inr ⟨rfl, a⟩
def topOf (ns : List Str) (ts : List Tie) (r : Str) : Str := if h : ∃ x, (x ∈ ns ∧ Conn ts r x) ∧ ∀ y, y ∈ ns → Conn ts r y → ¬ kl ns ts x y then Classical.choose h else r
theorem top_spec {ns : List Str} {ts : List Tie} {r : Str} (hr : r ∈ ns) : (topOf ns ts r ∈ ns ∧ Conn ts r (topOf ns ts r)) ∧ ∀ y, y ∈ ns → Conn ts r y → ¬ kl ns ts (topOf ns ts r) y := by
  have h : ∃ x, (x ∈ ns ∧ Conn ts r x) ∧ ∀ y, y ∈ ns → Conn ts r y → ¬ kl ns ts x y := by
    obtain ⟨x, hx, hm⟩ := ex_max (R := kl ns ts) kl_tr kl_irr (l := ns.filter fun x => decide (Conn ts r x)) (List.ne_nil_of_mem (List.mem_filter.mpr ⟨hr, decide_eq_true (.refl r)⟩))
    obtain ⟨h1, h2⟩ := List.mem_filter.mp hx
    exact ⟨x, ⟨h1, of_decide_eq_true h2⟩, fun y hy hc => hm y (List.mem_filter.mpr ⟨hy, decide_eq_true hc⟩)⟩
  unfold topOf
  rw [dif_pos h]
  exact Classical.choose_spec h
/-- what is eaten up has few ties -/
theorem peel_few {ns : List Str} {ts : List Tie} (g : Gr ns ts) {L : Nat} (hL : PP ns ts L = []) : ts.length + (reps ns ts).length ≤ ns.length := by
  have inj : ∀ t ∈ ts, ∀ u ∈ ts, lowEnd ns ts t = lowEnd ns ts u → t = u := by
    intro t ht u hu e
    by_cases h : t = u
    · exact h
    · exfalso
      -- v goes while two of its ties are there
      have other : ∀ t ∈ ts, ∀ k, rkOf ns ts (lowEnd ns ts t) = k + 1 → t ∈ (esIn ts (PP ns ts k)).filter fun x => decide (x.1 = lowEnd ns ts t ∨ x.2 = lowEnd ns ts t) := by
        intro t ht k hk
        have inP : ∀ x, k < rkOf ns ts x → x ∈ PP ns ts k := fun x hx => by
          by_cases hm : x ∈ PP ns ts k
          · exact hm
          · have := (rk_spec hL x).2 k hm
            omega
        rcases low_spec (ns := ns) (ts := ts) (g.ne t ht) with ⟨e1, e2⟩ | ⟨e1, e2⟩
        · have h2 := kl_le e2
          rw [← e1, hk] at h2
          refine List.mem_filter.mpr ⟨mem_esIn.mpr ⟨ht, inP _ (by rw [← e1, hk]; omega), inP _ (by omega)⟩, decide_eq_true (.inl e1.symm)⟩
        · have h2 := kl_le e2
          rw [← e1, hk] at h2
          refine List.mem_filter.mpr ⟨mem_esIn.mpr ⟨ht, inP _ (by omega), inP _ (by rw [← e1, hk]; omega)⟩, decide_eq_true (.inr e1.symm)⟩
      have hvn : lowEnd ns ts t ∈ ns := by
        rcases low_spec (ns := ns) (ts := ts) (g.ne t ht) with ⟨e1, _⟩ | ⟨e1, _⟩
        · rw [e1]; exact (g.tie t ht).1
        · rw [e1]; exact (g.tie t ht).2.1
      obtain ⟨s1, s2⟩ := rk_spec hL (lowEnd ns ts t)
      cases hk : rkOf ns ts (lowEnd ns ts t) with
      | zero =>
        rw [hk] at s1
        exact s1 hvn
      | succ k =>
        rw [hk] at s1
        have hin : lowEnd ns ts t ∈ PP ns ts k := by
          by_cases hm : lowEnd ns ts t ∈ PP ns ts k
          · exact hm
          · have := s2 k hm
            omega
        have a := other t ht k hk
        have b := other u hu k (by rw [← e]; exact hk)
        rw [← e] at b
        have hd := in_two a b h
        rw [← deg_eq fun x hx => g.ne x (mem_esIn.mp hx).1] at hd
        exact s1 (List.mem_filter.mpr ⟨hin, decide_eq_true hd⟩)
  have hnd : ((ts.map (lowEnd ns ts)) ++ (reps ns ts).map (topOf ns ts)).Nodup := by
    rw [List.nodup_append]
    refine ⟨nodup_map_on g.tnd inj, nodup_map_on (g.nd.filter _) fun r hr q hq e => ?_, fun x hx y hy e => ?_⟩
    · obtain ⟨r1, r2⟩ := List.mem_filter.mp hr
      obtain ⟨q1, q2⟩ := List.mem_filter.mp hq
      have r2 : rep ns ts r = r := of_decide_eq_true r2
      have q2 : rep ns ts q = q := of_decide_eq_true q2
      have hc : Conn ts r q := (top_spec r1).1.2.trans (by rw [e]; exact (top_spec q1).1.2.symm)
      rw [← r2, ← q2]
      exact rep_eq r1 q1 hc
    · subst e
      obtain ⟨t, ht, rfl⟩ := List.mem_map.mp hx
      obtain ⟨r, hr, e⟩ := List.mem_map.mp hy
      obtain ⟨r1, _⟩ := List.mem_filter.mp hr
      obtain ⟨⟨_, t2⟩, t3⟩ := top_spec (ts := ts) r1
      rw [e] at t2 t3
      obtain ⟨g1, g2, _⟩ := g.tie t ht
      rcases low_spec (ns := ns) (ts := ts) (g.ne t ht) with ⟨e1, e2⟩ | ⟨e1, e2⟩
      · rw [e1] at t2 t3
        exact t3 _ g2 (t2.step (mem_nbr.mpr ⟨t, ht, .inl ⟨rfl, rfl⟩⟩)) e2
      · rw [e1] at t2 t3
        exact t3 _ g1 (t2.step (mem_nbr.mpr ⟨t, ht, .inr ⟨rfl, rfl⟩⟩)) e2
  have := len_sub hnd (m := ns) fun x hx => by
    rcases List.mem_append.mp hx with hx | hx
    · obtain ⟨t, ht, rfl⟩ := List.mem_map.mp hx
      rcases low_spec (ns := ns) (ts := ts) (g.ne t ht) with ⟨e1, _⟩ | ⟨e1, _⟩
      · rw [e1]; exact (g.tie t ht).1
      · rw [e1]; exact (g.tie t ht).2.1
    · obtain ⟨r, hr, rfl⟩ := List.mem_map.mp hx
      exact (top_spec (List.mem_filter.mp hr).1).1.1
  rw [List.length_append, List.length_map, List.length_map] at this
  exact this
/-- the lemma on woods -/
theorem wood_iff {ns : List Str} {ts : List Tie} (g : Gr ns ts) : ts.length + (reps ns ts).length = ns.length ↔ PP ns ts (ns.length + 1) = [] :=
  ⟨peel_none g, fun h => Nat.le_antisymm (peel_few g h) (ties_ge g)⟩
end
end Hw

set_option Elab.async false
set_option linter.all false
set_option maxRecDepth 100000
set_option maxHeartbeats 1000000
namespace Hw
open PySem L2
noncomputable section
open Classical
theorem bfs_ex {ns : List Str} {nb : Str → List Str} (hnb : ∀ n ∈ ns, ∀ o ∈ nb n, o ∈ ns) {p : Str} (hp : p ∈ ns) : ∃ far, Bfs nb p far ∧ ∃ n0, FarOk ns n0 (far, []) := by
  have a : ∀ m i, muF ns (lev nb p i) ≤ m → ∃ far, Bfs nb p far ∧ ∃ n0, FarOk ns n0 (far, []) := by
    intro m
    induction m with
    | zero =>
      intro i h
      obtain ⟨n0, f⟩ := lev_ok hnb hp i
      by_cases e : (lev nb p i).2 = []
      · have e' : lev nb p i = ((lev nb p i).1, []) := Prod.ext rfl e
        exact ⟨_, ⟨i, e'⟩, n0, by rw [e'] at f; exact f⟩
      · have := mu_lvl hnb f e
        omega
    | succ m ih =>
      intro i h
      obtain ⟨n0, f⟩ := lev_ok hnb hp i
      by_cases e : (lev nb p i).2 = []
      · have e' : lev nb p i = ((lev nb p i).1, []) := Prod.ext rfl e
        exact ⟨_, ⟨i, e'⟩, n0, by rw [e'] at f; exact f⟩
      · have := mu_lvl hnb f e
        exact ih (i + 1) (by show muF ns (lvl nb (lev nb p i)) ≤ m; omega)
  exact a _ 0 (Nat.le_refl _)
def compOf (ts : List Tie) (p : Str) : List Str := if h : ∃ far, Bfs (nbr ts) p far then sortS ((Classical.choose h).map (·.1)) else []
theorem comp_eq {ts : List Tie} {p : Str} {far : Far} (h : Bfs (nbr ts) p far) : compOf ts p = sortS (far.map (·.1)) := by
  have hx : ∃ far, Bfs (nbr ts) p far := ⟨far, h⟩
  unfold compOf
  rw [dif_pos hx, (Classical.choose_spec hx).uniq h]
theorem Gr.nbs {ns : List Str} {ts : List Tie} (g : Gr ns ts) : ∀ n ∈ ns, ∀ o ∈ nbr ts n, o ∈ ns := fun n _ o ho => (g.nb ho).2
theorem mem_comp {ns : List Str} {ts : List Tie} (g : Gr ns ts) {p : Str} (hp : p ∈ ns) {z : Str} : z ∈ compOf ts p ↔ Conn ts p z := by
  obtain ⟨far, hb, _⟩ := bfs_ex g.nbs hp
  rw [comp_eq hb, (sortS_perm _).mem_iff]
  exact hb.least.1 z
theorem comp_asc {ns : List Str} {ts : List Tie} (g : Gr ns ts) {p : Str} (hp : p ∈ ns) : Asc (compOf ts p) := by
  obtain ⟨far, hb, n0, f⟩ := bfs_ex g.nbs hp
  rw [comp_eq hb]
  exact sortS_asc f.nd
theorem Conn.within {ns : List Str} {ts : List Tie} (g : Gr ns ts) {p z : Str} (hp : p ∈ ns) (h : Conn ts p z) : z ∈ ns := by
  obtain ⟨n, h⟩ := h
  induction n generalizing z with
  | zero => rw [show z = p from h]; exact hp
  | succ n ih =>
    obtain ⟨c, hc, hz⟩ := h
    exact (g.nb hz).2
def pstep (ts : List Tie) (acc : List (List Str)) (place : Str) : List (List Str) := if place ∈ acc.flatten then acc else acc ++ [compOf ts place]
def partsL (ns : List Str) (ts : List Tie) : List (List Str) := ns.foldl (pstep ts) []
theorem rep_first {ns : List Str} {ts : List Tie} {i : Nat} {x : Str} (hn : ns.Nodup) (hx : ns[i]? = some x) : rep ns ts x = x ↔ ∀ u ∈ ns.take i, ¬ Conn ts u x := by
  have hi := (List.getElem?_eq_some_iff.mp hx).1
  have e : ns = ns.take i ++ x :: ns.drop (i + 1) := by
    have h2 := (List.getElem?_eq_some_iff.mp hx).2
    rw [← h2]
    simp
  have hr : rep ns ts x = ((ns.take i ++ x :: ns.drop (i + 1)).find? fun u => decide (Conn ts u x)).getD x := by
    unfold rep
    rw [← e]
  rw [hr, List.find?_append]
  constructor
  · intro h u hu hc
    cases hf : (ns.take i).find? fun u => decide (Conn ts u x) with
    | none => exact absurd (decide_eq_true hc) (by have := List.find?_eq_none.mp hf u hu; simpa using this)
    | some w =>
      rw [hf] at h
      have hw : w = x := h
      have hm := List.mem_of_find?_eq_some hf
      rw [hw] at hm
      exact nodup_take hn hx hm
  · intro h
    have hf : (ns.take i).find? (fun u => decide (Conn ts u x)) = none := List.find?_eq_none.mpr fun u hu => by simpa using h u hu
    rw [hf, List.find?_cons_of_pos (by exact decide_eq_true (Conn.refl x))]
    rfl
/-- the parts behind i places -/
structure PIn (ns : List Str) (ts : List Tie) (i : Nat) (ps : List (List Str)) : Prop where
  mem : ∀ z, z ∈ ps.flatten ↔ ∃ u ∈ ns.take i, Conn ts u z
  len : ps.length = ((ns.take i).filter fun v => decide (rep ns ts v = v)).length
  each : ∀ q ∈ ps, ∃ u ∈ ns.take i, q = compOf ts u ∧ ∃ r, q = u :: r
  ord : ps.Pairwise fun p q => ∃ a r b r', p = a :: r ∧ q = b :: r' ∧ strLt a b = true
  nd : ps.flatten.Nodup
theorem pin {ns : List Str} {ts : List Tie} (g : Gr ns ts) (ha : Asc ns) : ∀ i, PIn ns ts i ((ns.take i).foldl (pstep ts) [])
  | 0 => ⟨fun z => by simp, by simp, by simp, by simp, by simp⟩
  | i + 1 => by
    have ih := pin g ha i
    cases hx : ns[i]? with
    | none =>
      have e : ns.take (i + 1) = ns.take i := by
        rw [List.take_succ, hx]; simp
      refine ⟨?_, ?_, ?_, ?_, ?_⟩ <;> rw [e]
      · exact ih.mem
      · exact ih.len
      · exact ih.each
      · exact ih.ord
      · exact ih.nd
    | some x =>
      rw [take_snoc hx, List.foldl_append]
      show PIn ns ts (i + 1) (pstep ts ((ns.take i).foldl (pstep ts) []) x)
      generalize (ns.take i).foldl (pstep ts) [] = ps at ih
      have hxn := List.mem_of_getElem? hx
      have hrf := rep_first (ts := ts) g.nd hx
      unfold pstep
      by_cases h : x ∈ ps.flatten
      · rw [if_pos h]
        obtain ⟨u, hu, hc⟩ := (ih.mem x).mp h
        refine ⟨fun z => ?_, ?_, fun q hq => ?_, ih.ord, ih.nd⟩
        · rw [ih.mem z, take_snoc hx]
          constructor
          · rintro ⟨w, hw, hz⟩
            exact ⟨w, List.mem_append_left _ hw, hz⟩
          · rintro ⟨w, hw, hz⟩
            rcases List.mem_append.mp hw with hw | hw
            · exact ⟨w, hw, hz⟩
            · rw [List.mem_singleton.mp hw] at hz
              exact ⟨u, hu, hc.trans hz⟩
        · have hne : rep ns ts x ≠ x := fun e => hrf.mp e u hu hc
          rw [take_snoc hx, List.filter_append, ih.len, List.filter_cons_of_neg (by simpa using hne)]
          simp
        · obtain ⟨w, hw, hh⟩ := ih.each q hq
          exact ⟨w, by rw [take_snoc hx]; exact List.mem_append_left _ hw, hh⟩
      · rw [if_neg h]
        have hno : ∀ u ∈ ns.take i, ¬ Conn ts u x := fun u hu hc => h ((ih.mem x).mpr ⟨u, hu, hc⟩)
        have hxr : rep ns ts x = x := hrf.mpr hno
        -- x is the least of its part
        have hhead : ∃ r, compOf ts x = x :: r := by
          have hm : x ∈ compOf ts x := (mem_comp g hxn).mpr (.refl x)
          have hs := comp_asc g hxn
          cases hc : compOf ts x with
          | nil => rw [hc] at hm; cases hm
          | cons b r =>
            rw [hc] at hm hs
            by_cases e : x = b
            · exact ⟨r, by rw [e]⟩
            · exfalso
              have hxr' : x ∈ r := by
                rcases List.mem_cons.mp hm with a | a
                · exact absurd a e
                · exact a
              have hlt : strLt b x = true := (List.pairwise_cons.mp hs).1 x hxr'
              have hcb : Conn ts x b := (mem_comp g hxn).mp (by rw [hc]; exact List.mem_cons_self)
              have hbn := hcb.within g hxn
              obtain ⟨j, hj, ej⟩ := List.mem_iff_getElem.mp hbn
              have hi := (List.getElem?_eq_some_iff.mp hx).1
              have ei := (List.getElem?_eq_some_iff.mp hx).2
              rcases Nat.lt_trichotomy j i with l | l | l
              · refine hno b ?_ hcb.symm
                rw [List.mem_take_iff_getElem]
                exact ⟨j, by omega, ej⟩
              · subst l
                rw [ej] at ei
                exact e ei.symm
              · have := List.pairwise_iff_getElem.mp ha i j hi hj l
                rw [ei, ej] at this
                rw [strLt_as this] at hlt; cases hlt
        obtain ⟨r, hr⟩ := hhead
        refine ⟨fun z => ?_, ?_, fun q hq => ?_, ?_, ?_⟩
        · rw [List.flatten_append, List.mem_append, ih.mem z, take_snoc hx]
          simp only [List.flatten_cons, List.flatten_nil, List.append_nil]
          rw [mem_comp g hxn]
          constructor
          · rintro (⟨w, hw, hz⟩ | hz)
            · exact ⟨w, List.mem_append_left _ hw, hz⟩
            · exact ⟨x, List.mem_append_right _ List.mem_cons_self, hz⟩
          · rintro ⟨w, hw, hz⟩
            rcases List.mem_append.mp hw with hw | hw
            · exact .inl ⟨w, hw, hz⟩
            · rw [List.mem_singleton.mp hw] at hz; exact .inr hz
        · rw [take_snoc hx, List.filter_append, List.length_append, List.length_append, ih.len, List.filter_cons_of_pos (by exact decide_eq_true hxr)]
          simp
        · rcases List.mem_append.mp hq with hq | hq
          · obtain ⟨w, hw, hh⟩ := ih.each q hq
            exact ⟨w, by rw [take_snoc hx]; exact List.mem_append_left _ hw, hh⟩
          · rw [List.mem_singleton.mp hq]
            exact ⟨x, by rw [take_snoc hx]; exact List.mem_append_right _ List.mem_cons_self, rfl, r, hr⟩
        · rw [List.pairwise_append]
          refine ⟨ih.ord, List.pairwise_singleton _ _, fun p hp q hq => ?_⟩
          rw [List.mem_singleton.mp hq]
          obtain ⟨u, hu, _, r', hr'⟩ := ih.each p hp
          refine ⟨u, r', x, r, hr', hr, ?_⟩
          rw [List.mem_take_iff_getElem] at hu
          obtain ⟨j, hj, ej⟩ := hu
          have hi := (List.getElem?_eq_some_iff.mp hx).1
          have ei := (List.getElem?_eq_some_iff.mp hx).2
          have := List.pairwise_iff_getElem.mp ha j i (by omega) hi (by omega)
          rw [ej, ei] at this
          exact this
        · rw [List.flatten_append, List.nodup_append]
          simp only [List.flatten_cons, List.flatten_nil, List.append_nil]
          refine ⟨ih.nd, (comp_asc g hxn).nodup, fun a ha' b hb e => ?_⟩
          subst e
          obtain ⟨u, hu, hc⟩ := (ih.mem a).mp ha'
          exact hno u hu (hc.trans ((mem_comp g hxn).mp hb).symm)
theorem parts_in {ns : List Str} {ts : List Tie} (g : Gr ns ts) (ha : Asc ns) : PIn ns ts ns.length (partsL ns ts) := by
  have := pin g ha ns.length
  rw [List.take_length] at this
  exact this
theorem parts_len {ns : List Str} {ts : List Tie} (g : Gr ns ts) (ha : Asc ns) : (partsL ns ts).length = (reps ns ts).length := by
  have := (parts_in g ha).len
  rw [List.take_length] at this
  exact this
end
end Hw

set_option Elab.async false
set_option linter.all false
set_option maxRecDepth 100000
set_option maxHeartbeats 4000000
namespace Hw
open PySem L2 PyProof.Rows
abbrev sPartsOf : Stmt := topS 18
theorem wfl_places (z : Str) (pl t d : Addr) : (wfl z pl t d).lookup ("places" : Str) = some (.ref pl) := by
  unfold wfl
  rw [lookup_putF, if_neg (by decide), lookup_putF, if_neg (by decide), lookup_putF, if_pos rfl]
theorem wfl_ties (z : Str) (pl t d : Addr) : (wfl z pl t d).lookup ("ties" : Str) = some (.ref t) := by
  unfold wfl
  rw [lookup_putF, if_neg (by decide), lookup_putF, if_pos rfl]
theorem AscP.nodupP {l : List Tie} (h : AscP l) : l.Nodup := h.imp fun q e => by rw [e, ltP_irr] at q; cases q
theorem GoodW.gr {ns : List Str} {ts : List Tie} (g : GoodW ns ts) : Gr ns ts := ⟨g.asc.nodup, g.tasc.nodupP, g.tie⟩
theorem smallM {n : Nat} (h : n ≤ 100000) : n < sizeLine := by rw [sizeLine_eq]; omega
def PartT (H : Hp) (q : Addr) (part : List Str) : Prop := H q = some (.tup (part.map V.str))
def PartsAt (H : Hp) (p : Addr) (ps : List (List Str)) : Prop := ∃ qs : List Addr, H p = some (.tup (qs.map V.ref)) ∧ Paired (PartT H) qs ps
def spPartsOf (C : Addr) : Sp := fun vs H Q _ => ∃ (x : Addr) (ns : List Str) (ts : List Tie), vs = [.ref x] ∧ WebO C H x ns ts ∧ ns.length < 64 ∧ ∀ p H', PartsAt H' p (partsL ns ts) → Same H H' → Q (.ref p) H'
theorem paired_snoc {α β : Type} {F : α → β → Prop} {x : α} {y : β} (f : F x y) : ∀ {xs : List α} {ys : List β}, Paired F xs ys → Paired F (xs ++ [x]) (ys ++ [y])
  | _, _, .nil => .cons f .nil
  | _, _, .cons h t => .cons h (paired_snoc f t)
/-- names that are taken up, each once -/
def putAll (ks l : List Str) : List Str := l.foldl (fun a z => if z ∈ a then a else a ++ [z]) ks
theorem putAll_mem {l : List Str} : ∀ {ks : List Str} {z : Str}, z ∈ putAll ks l ↔ z ∈ ks ∨ z ∈ l := by
  induction l with
  | nil => intro ks z; simp [putAll]
  | cons y l ih =>
    intro ks z
    show z ∈ putAll (if y ∈ ks then ks else ks ++ [y]) l ↔ _
    rw [ih]
    by_cases h : y ∈ ks
    · rw [if_pos h, List.mem_cons]
      constructor
      · rintro (a | a)
        · exact .inl a
        · exact .inr (.inr a)
      · rintro (a | rfl | a)
        · exact .inl a
        · exact .inl h
        · exact .inr a
    · rw [if_neg h, List.mem_append, List.mem_singleton, List.mem_cons, or_assoc]
theorem putAll_nd {l : List Str} : ∀ {ks : List Str}, ks.Nodup → (putAll ks l).Nodup := by
  induction l with
  | nil => intro ks h; exact h
  | cons y l ih =>
    intro ks h
    show (putAll (if y ∈ ks then ks else ks ++ [y]) l).Nodup
    by_cases hy : y ∈ ks
    · rw [if_pos hy]; exact ih h
    · rw [if_neg hy]
      refine ih ?_
      rw [List.nodup_append]
      exact ⟨h, by simp, fun a ha b hb e => hy (by rw [List.mem_singleton.mp hb] at e; exact e ▸ ha)⟩
theorem putAll_snoc {l : List Str} {j : Nat} {y : Str} (h : l[j]? = some y) (ks : List Str) : putAll ks (l.take (j + 1)) = if y ∈ putAll ks (l.take j) then putAll ks (l.take j) else putAll ks (l.take j) ++ [y] := by
  unfold putAll
  rw [foldl_snoc h]
abbrev encS (ks : List Str) : List (Key × V) := ks.map fun z => ((Sum.inr z : Key), V.bl true)
theorem putS (ks : List Str) (z : Str) : putK (encS ks) (Sum.inr z) (V.bl true) = encS (if z ∈ ks then ks else ks ++ [z]) := by
  have ha : ((encS ks).any fun kv => decide (kv.1 = (Sum.inr z : Key))) = decide (z ∈ ks) := by
    rw [List.any_map, Bool.eq_iff_iff, List.any_eq_true, decide_eq_true_iff]
    constructor
    · rintro ⟨u, hu, e⟩
      have e' := of_decide_eq_true e
      injection e' with e'
      exact e' ▸ hu
    · intro h
      exact ⟨z, h, decide_eq_true rfl⟩
  unfold putK
  rw [ha]
  by_cases h : z ∈ ks
  · rw [if_pos (decide_eq_true h), if_pos h]
    rw [List.map_map]
    refine List.map_congr_left fun u _ => ?_
    show (if _ then _ else _) = _
    split <;> rfl
  · rw [if_neg (by simpa using h), if_neg h]
    show ks.map _ ++ _ = (ks ++ [z]).map _
    rw [List.map_append]; rfl
section
variable {P : Program} {w : World} {K : PySem.W.Frag} {mg : Str → Option Value} {base : Heap}
theorem scPartsOf : FnScope ["web", "parts", "seen", "place", "part", "name"] ["web"] (defScope sPartsOf) := ⟨rfl, rfl, rfl, by decide +kernel, rfl, by decide +kernel, by decide +kernel⟩
/-- where the loop of parts stands -/
def PartsI (H0 : Hp) (pa sd : Addr) (ns : List Str) (ps : List (List Str)) (H : Hp) : Prop := Same H0 H ∧ (∃ qs : List Addr, H pa = some (.lst (qs.map V.ref)) ∧ Paired (PartT H) qs ps) ∧ ∃ ks : List Str, H sd = some (.dK (encS ks)) ∧ (∀ z, z ∈ ks ↔ z ∈ ps.flatten) ∧ ks.Nodup ∧ (∀ z ∈ ks, z ∈ ns)
theorem ok_partsof {f fB C : Addr} {fd fdB : FuncData} {k : Nat} (F : Fun K "parts_of" "parts_of" sPartsOf f fd) (T : TxtW K mg C) (B3 : Blt3 mg)
    (mB : Meth K C "far_by_place" fB) (GB : FnOk P w K mg base CX0 k fB fdB ["self", "place"] (spFarBy C)) (bB : Binds K fdB ["self", "place"] []) : FnOk P w K mg base CX0 (k + 1) f fd ["web"] (spPartsOf C) := by
  refine F.ok scPartsOf (fun vs H Q E h => ?_) (fun cdv A outer s H vs Q E hr h => ?_)
  · obtain ⟨x, ns, ts, rfl, _⟩ := h
    rfl
  · obtain ⟨x, ns, ts, rfl, wb, h64, q⟩ := h
    have hu := hu_of hr
    refine ⟨_, pss_cons (ps_set (i := 1) scPartsOf.nd rfl (.inl rfl) (pe_lst pa_nil))
      (pss_cons (ps_set (i := 2) scPartsOf.nd rfl (.inl rfl) pe_dnewK)
      (pss_cons (ps_for PassesOwn.never rfl (pi_tup (pe_fld (pv 0) rfl)) (pg_name (i := 3) scPartsOf.nd rfl (.inl rfl))
        (pss_one (ps_if (pt_cmp (pc_dnotin hu (pv 3) (pv 2)))
          (pss_cons (ps_set (i := 4) scPartsOf.nd rfl (.inl rfl) (pe_callTy call_tuple_of (by rfl) B3.tuple PyProof.Rows.boot_tuple (pa_cons (pe_callB (call_sortedD rfl) (by rfl) B3.sorted PyProof.Rows.boot_sorted (pa_cons (pe_meth (pv 0) T.cl mB GB hr bB .nil pass0 (pa_cons (pv 3) pa_nil)) pa_nil)) pa_nil)))
          (pss_cons (ps_expr (pe_bm PySem.F.plainAttrs_list PySem.F.slot_list_append PySem.F.type_list_append mt_append (pv 1) (pa_cons (pv 4) pa_nil)))
          (pss_one (ps_for PassesOwn.never rfl (pi_tup (pv 4)) (pg_name (i := 5) scPartsOf.nd rfl (.inl rfl))
            (pss_one (ps_dput hu (pv 2) (pv 5) pe_bl rfl)))))) pss_nil)))
      (pss_one (ps_ret (pe_callTy call_tuple_of (by rfl) B3.tuple PyProof.Rows.boot_tuple (pa_cons (pv 1) pa_nil)))))), ?_⟩
    obtain ⟨⟨dx, pl, t, d, fa, h1, ⟨hp1, tq, hp2, hp3⟩, h3⟩, g⟩ := id wb
    have hnd := g.asc.nodup
    refine rs_set ?_
    refine ⟨Nat.zero_le _, fun pa npa => ?_⟩
    refine rs_set ?_
    intro sd nsd
    have npsd : pa ≠ sd := ne_of_none upd_same nsd
    have nsd0 : H sd = none := (same_upd npa).free nsd
    have w0 : PartsI H pa sd ns [] (upd (upd H pa (.lst [])) sd (.dK [])) := ⟨(same_upd npa).trans (same_upd nsd), ⟨[], (same_upd nsd) _ _ upd_same, .nil⟩, [], upd_same, (fun z => by simp), List.nodup_nil, (fun _ z => nomatch z)⟩
    generalize (upd (upd H pa (.lst [])) sd (.dK [])) = H1 at w0 ⊢
    refine rs_tup pl (ns.map V.str) (fun Q1 q1 => ⟨.ref x, rfl, x, C, dx, _, _, rfl, w0.1 _ _ h1, T.cl, T.nP, wfl_places _ _ _ _, q1⟩) (fun i σ' H' => ∃ o3 o4 o5, σ' = [some (.ref x), some (.ref pa), some (.ref sd), o3, o4, o5] ∧ PartsI H pa sd ns ((ns.take i).foldl (pstep ts) []) H')
      ⟨_, _, _, rfl, w0⟩ (fun i σ' H' _ ⟨_, _, _, _, wi⟩ => sqt_of (wi.1 _ _ hp1)) ?_ ?_
    · rintro i v σ2 H2 hx ⟨o3, o4, o5, rfl, s2, ⟨qs, eq, hq⟩, ks, es, hmem, hks, hkn⟩
      obtain ⟨z, hz, rfl⟩ := map_get hx
      have hzn := List.mem_of_getElem? hz
      have hkl : ks.length ≤ 200 := Nat.le_trans (sub_len hks hkn) g.few
      refine r_gname ?_
      refine ⟨.str z, rfl, .ref sd, rfl, sd, _, rfl, DGet.k (k := Sum.inr z) es, _, rfl, ?_⟩
      rw [valV_seen]
      have hst : (ns.take (i + 1)).foldl (pstep ts) [] = pstep ts ((ns.take i).foldl (pstep ts) []) z := foldl_snoc hz
      have hpl : ((ns.take i).foldl (pstep ts) []).length ≤ ns.length := by
        rw [(pin g.gr g.asc i).len]
        exact Nat.le_trans (List.length_filter_le _ _) (by rw [List.length_take]; omega)
      generalize (ns.take i).foldl (pstep ts) [] = ps at hq hmem hst hpl ⊢
      by_cases hin : z ∈ ks
      · rw [if_pos hin]
        refine ⟨_, _, _, rfl, s2, ?_⟩
        rw [hst]
        unfold pstep
        rw [if_pos ((hmem z).mp hin)]
        exact ⟨⟨qs, eq, hq⟩, ks, es, hmem, hks, hkn⟩
      · rw [if_neg hin]
        have hps : pstep ts ps z = ps ++ [compOf ts z] := by
          unfold pstep
          rw [if_neg (fun e => hin ((hmem z).mpr e))]
        refine rs_set ?_
        refine ⟨.ref x, rfl, x, dx, _, rfl, s2 _ _ h1, wfl_no _ _ _ _ (by decide +kernel) (by decide +kernel) (by decide +kernel) (by decide +kernel), .str z, rfl, x, z, ns, ts, rfl, wb.keep s2, hzn, fun far fd' H3 hb hf s3 e nf => ?_⟩
        obtain ⟨n0, fk⟩ := id hf
        have few : far.length ≤ ns.length := fk.few
        refine ⟨fd', encF far, far.map (·.1), rfl, .inl e, by unfold encF; rw [List.map_map, List.map_map]; rfl, by rw [List.length_map]; omega, fun ys sl hperm hsrt nsl => ?_⟩
        rw [sortedS_eq hperm hsrt, ← comp_eq hb]
        have hcl : (compOf ts z).length ≤ 200 := by
          rw [comp_eq hb, (sortS_perm _).length_eq, List.length_map]
          have := g.few
          omega
        refine ⟨sl, _, rfl, .inl ⟨sql_of upd_same, fun pt npt => ?_⟩⟩
        have s35 := (s3.trans (same_upd (o := .lst ((compOf ts z).map V.str)) nsl)).trans (same_upd (o := .tup ((compOf ts z).map V.str)) npt)
        have ept : (upd (upd H3 sl (.lst ((compOf ts z).map V.str))) pt (.tup ((compOf ts z).map V.str))) pt = some (.tup ((compOf ts z).map V.str)) := upd_same
        generalize (upd (upd H3 sl (.lst ((compOf ts z).map V.str))) pt (.tup ((compOf ts z).map V.str))) = H5 at s35 ept ⊢
        have eq5 := s35 _ _ eq
        have hql : qs.length ≤ 200 := by rw [Paired.length hq]; have := g.few; omega
        refine rs_bm ⟨.ref pa, rfl, .inl ⟨rfl, _, sql_of eq5⟩, .ref pt, rfl, pa, _, _, rfl, rfl, eq5, smallM (by rw [List.length_map]; omega), ?_⟩
        have nptpa : pt ≠ pa := ne_of ept eq5 (fun z => nomatch z)
        have npas : pa ≠ sd := npsd
        -- the names
        have wJ : ∀ H', H' = upd H5 pa (.lst (qs.map V.ref ++ [.ref pt])) → Same H H' ∧ H' pa = some (.lst ((qs ++ [pt]).map V.ref)) ∧ Paired (PartT H') (qs ++ [pt]) (ps ++ [compOf ts z]) ∧ H' sd = some (.dK (encS ks)) ∧ H' pt = some (.tup ((compOf ts z).map V.str)) := by
          rintro H' rfl
          refine ⟨fun b o e => ?_, by rw [upd_same, List.map_append]; rfl, ?_, by rw [upd_ne (Ne.symm npas)]; exact s35 _ _ es, by rw [upd_ne nptpa]; exact ept⟩
          · rw [upd_ne (ne_of_none e npa)]
            exact s35 _ _ (s2 _ _ e)
          · refine paired_snoc (F := PartT _) (by show (upd H5 pa _) pt = _; rw [upd_ne nptpa]; exact ept) (paired_mono (fun q part e => ?_) hq)
            have e5 := s35 _ _ (show H2 q = _ from e)
            show (upd H5 pa _) q = _
            rw [upd_ne (ne_of e5 eq5 (fun z => nomatch z))]
            exact e5
        obtain ⟨w1, w2, w3, w4, w5⟩ := wJ _ rfl
        generalize (upd H5 pa (.lst (qs.map V.ref ++ [.ref pt]))) = H6 at w1 w2 w3 w4 w5 ⊢
        refine ⟨.ref pt, rfl, pt, rfl, ⟨_, sqt_of w5⟩, for_tup (xs := (compOf ts z).map V.str) (fun j σ' H' => ∃ o5', σ' = [some (.ref x), some (.ref pa), some (.ref sd), some (.str z), some (.ref pt), o5'] ∧ Same H H' ∧ H' pa = some (.lst ((qs ++ [pt]).map V.ref)) ∧ Paired (PartT H') (qs ++ [pt]) (ps ++ [compOf ts z]) ∧ H' sd = some (.dK (encS (putAll ks ((compOf ts z).take j)))) ∧ H' pt = some (.tup ((compOf ts z).map V.str)))
          ⟨_, rfl, w1, w2, w3, w4, w5⟩ (fun j σ' H' _ ⟨_, _, _, _, _, _, e⟩ => sqt_of e) ?_ ?_⟩
        · rintro j v σ3 H7 hv ⟨o5', rfl, u1, u2, u3, u4, u5⟩
          obtain ⟨y, hy, rfl⟩ := map_get hv
          refine r_gname ?_
          have hpn : ∀ u ∈ putAll ks ((compOf ts z).take j), u ∈ ns := fun u hu => by
            rcases putAll_mem.mp hu with a | a
            · exact hkn u a
            · exact ((mem_comp g.gr hzn).mp (List.mem_of_mem_take a)).within g.gr hzn
          have hpl2 : (putAll ks ((compOf ts z).take j)).length ≤ 200 := Nat.le_trans (sub_len (putAll_nd hks) hpn) g.few
          refine ⟨.ref sd, rfl, .str y, rfl, sd, _, rfl, DPut.k (k := Sum.inr y) u4 (smallM (by rw [List.length_map]; omega)), ?_⟩
          rw [putS, ← putAll_snoc hy]
          refine ⟨_, rfl, fun b o e => ?_, ?_, ?_, upd_same, ?_⟩
          · rw [upd_ne (ne_of_none e nsd0)]; exact u1 _ _ e
          · rw [upd_ne npas]; exact u2
          · refine paired_mono (fun q part e => ?_) u3
            show (upd H7 sd _) q = _
            rw [upd_ne (ne_of (show H7 q = _ from e) u4 (fun z => nomatch z))]
            exact e
          · rw [upd_ne (ne_of u5 u4 (fun z => nomatch z))]; exact u5
        · rintro σ3 H7 ⟨o5', rfl, u1, u2, u3, u4, u5⟩
          rw [List.length_map, List.take_length] at u4
          refine ⟨_, _, _, rfl, u1, ⟨_, u2, ?_⟩, _, u4, fun u => ?_, putAll_nd hks, fun u hu => ?_⟩
          · rw [hst, hps]; exact u3
          · rw [hst, hps, List.flatten_append, List.mem_append, putAll_mem, hmem u]
            simp
          · rcases putAll_mem.mp hu with a | a
            · exact hkn u a
            · exact ((mem_comp g.gr hzn).mp a).within g.gr hzn
    · rintro σ2 H2 ⟨o3, o4, o5, rfl, s2, ⟨qs, eq, hq⟩, _⟩
      rw [List.length_map, List.take_length] at hq
      refine ⟨.ref pa, rfl, pa, _, rfl, .inl ⟨sql_of eq, fun p np => q p _ ⟨qs, upd_same, paired_mono (fun q part e => (same_upd np) _ _ e) hq⟩ (s2.trans (same_upd np))⟩⟩
end
end Hw

set_option Elab.async false
set_option linter.all false
set_option maxRecDepth 100000
set_option maxHeartbeats 4000000
namespace Hw
open PySem L2 PyProof.Rows
abbrev sLParts : Stmt := topS 32
def partD (part : List Str) : PyData := .tuple (part.map PyData.str)
theorem alike_strs : ∀ xs ys : List Str, PySem.W.alikeAll (xs.map PyData.str) (ys.map PyData.str) = true
  | [], _ => by simp [PySem.W.alikeAll]
  | _ :: _, [] => by simp [PySem.W.alikeAll]
  | x :: xs, y :: ys => by simp [PySem.W.alikeAll, PySem.W.alike, alike_strs xs ys]
theorem alike_part (p q : List Str) : PySem.W.alike (partD p) (partD q) = true := by
  unfold partD
  rw [PySem.W.alike]
  exact alike_strs p q
theorem dataLe_part {a b : Str} {r r' : List Str} (h : strLt a b = true) : PySem.W.dataLt (partD (b :: r')) (partD (a :: r)) = false := by
  unfold partD
  rw [PySem.W.dataLt_tuple, List.map_cons, List.map_cons, PySem.W.dataLt_all_no (by simp [PySem.W.alike]) (by
    rw [PyData.eqv]
    exact beq_eq_false_iff_ne.mpr (Ne.symm (strLt_ne h))), PySem.W.dataLt_str]
  exact strLt_as h
theorem dp_strs {K : PySem.W.Frag} {H : Hp} : ∀ zs : List Str, DpAll K H (zs.map V.str) (zs.map PyData.str)
  | [] => .nil
  | z :: zs => .cons (.str z) (dp_strs zs)
theorem depth_part (q : List Str) : (partD q).depth ≤ 1 := by
  have a : ∀ xs : List Str, PyData.depthAll (xs.map PyData.str) = 0 := by
    intro xs
    induction xs with
    | nil => rfl
    | cons x xs ih =>
      show PyData.depthAll (PyData.str x :: xs.map PyData.str) = 0
      rw [PyData.depthAll, ih, PyData.depth]; rfl
  unfold partD
  rw [PyData.depth, a]; exact Nat.le_refl _
def spLParts : Sp := fun vs H Q _ => ∃ (p : Addr) (ns : List Str) (ts : List Tie), vs = [.ref p] ∧ OwnW ns ts ∧ WebAt H p ns ts ∧ ∀ l H', PartsAt H' l (partsL ns ts) → Same H H' → Q (.ref l) H'
theorem rs_par3 {i j l : Nat} {ta : TA} {u : TS} {D : Ends} {σ : L2.St} {H : Hp} (h : ta σ H fun vs H1 => ∃ x y z, vs = [x, y, z] ∧ u D (((σ.set i (some x)).set j (some y)).set l (some z)) H1) : tSeq (tPar3 i j l ta) u D σ H := h
section
variable {P : Program} {w : World} {K : PySem.W.Frag} {mg : Str → Option Value} {base : Heap}
theorem scLParts : FnScope ["own", "near", "found", "known", "place", "part", "one"] ["own"] (defScope sLParts) := ⟨rfl, rfl, rfl, by decide +kernel, rfl, by decide +kernel, by decide +kernel⟩
theorem ok_lparts {f fN fF : Addr} {fd fdN fdF : FuncData} {k : Nat} (F : Fun K "_law_parts" "_law_parts" sLParts f fd) (B : Blt mg) (B3 : Blt3 mg) (GN : FnOk P w K mg base CX0 k fN fdN ["places", "ties"] spNear) (gN : mg "_law_near" = some (.ref fN)) (kN : PySem.W.keepIn K (.ref fN) = true) (bN : Binds K fdN ["places", "ties"] [])
    (GF : FnOk P w K mg base CX0 k fF fdF ["near", "name"] spFars) (gF : mg "_law_fars" = some (.ref fF)) (kF : PySem.W.keepIn K (.ref fF) = true) (bF : Binds K fdF ["near", "name"] []) : FnOk P w K mg base CX0 (k + 1) f fd ["own"] spLParts := by
  refine F.ok scLParts (fun vs H Q E h => ?_) (fun cdv A outer s H vs Q E hr h => ?_)
  · obtain ⟨p, ns, ts, rfl, _⟩ := h
    rfl
  · obtain ⟨p, ns, ts, rfl, own, ⟨pl, tl, tq, e1, e2, e3, e4⟩, q⟩ := h
    have hu := hu_of hr
    have hu64 := hr.units
    have g := own.good
    refine ⟨_, pss_cons (ps_par3 (i := 1) (j := 2) (l := 3) rfl scLParts.nd rfl rfl rfl (by decide) (by decide) (by decide) rfl rfl rfl (pa_cons (pe_call GN hr (by rfl) gN kN bN .nil pass0 (pa_cons (pe_ix ix_tup (pv 0) pe_int (fun _ _ => rfl)) (pa_cons (pe_ix ix_tup (pv 0) pe_int (fun _ _ => rfl)) pa_nil))) (pa_cons (pe_lst pa_nil) (pa_cons pe_dnewK pa_nil))) rfl)
      (pss_cons (ps_for PassesOwn.never rfl (pi_list (pe_ix ix_tup (pv 0) pe_int (fun _ _ => rfl))) (pg_name (i := 4) scLParts.nd rfl (.inl rfl))
        (pss_one (ps_if (pt_cmp (pc_dnotin hu (pv 4) (pv 3)))
          (pss_cons (ps_set (i := 5) scLParts.nd rfl (.inl rfl) (pe_callB (cr_sortT hu64) (by rfl) B3.sorted PyProof.Rows.boot_sorted (pa_cons (pe_callTy (call_listD rfl) (by rfl) B.list PyProof.Rows.boot_list (pa_cons (pe_call GF hr (by rfl) gF kF bF .nil pass0 (pa_cons (pv 1) (pa_cons (pv 4) pa_nil))) pa_nil)) pa_nil)))
          (pss_cons (ps_expr (pe_bm PySem.F.plainAttrs_list PySem.F.slot_list_append PySem.F.type_list_append mt_append (pv 2) (pa_cons (pe_callTy call_tuple_of (by rfl) B3.tuple PyProof.Rows.boot_tuple (pa_cons (pv 5) pa_nil)) pa_nil)))
          (pss_one (ps_for PassesOwn.never rfl (pi_list (pv 5)) (pg_name (i := 6) scLParts.nd rfl (.inl rfl))
            (pss_one (ps_dput hu (pv 3) (pv 6) pe_bl rfl)))))) pss_nil)))
      (pss_one (ps_ret (pe_callTy call_tuple_of (by rfl) B3.tuple PyProof.Rows.boot_tuple (pa_cons (pe_callB (cr_sortB hu64) (by rfl) B3.sorted PyProof.Rows.boot_sorted (pa_cons (pv 2) pa_nil)) pa_nil))))), ?_⟩
    have hnd := own.asc.nodup
    refine rs_par3 ?_
    refine ⟨.ref p, rfl, p, [.ref pl, .ref tl], 0, .ref pl, rfl, rfl, sqt_of e1, rfl, .ref p, rfl, p, [.ref pl, .ref tl], 1, .ref tl, rfl, rfl, sqt_of e1, rfl, pl, tl, ns, ts, tq, rfl, own, e2, e3, e4, fun nd fa H0 s0 nl nd0 nf0 => ?_⟩
    refine ⟨Nat.zero_le _, fun pa npa => fun sd nsd => ⟨_, _, _, rfl, ?_⟩⟩
    have npsd : pa ≠ sd := ne_of_none upd_same nsd
    have nsd0 : H0 sd = none := (same_upd npa).free nsd
    have w0 : PartsI H0 pa sd ns [] (upd (upd H0 pa (.lst [])) sd (.dK [])) := ⟨(same_upd npa).trans (same_upd nsd), ⟨[], (same_upd nsd) _ _ upd_same, .nil⟩, [], upd_same, (fun z => by simp), List.nodup_nil, (fun _ z => nomatch z)⟩
    generalize (upd (upd H0 pa (.lst [])) sd (.dK [])) = H1 at w0 ⊢
    refine rs_list pl (ns.map V.str) (fun Q1 q1 => ⟨.ref p, rfl, p, [.ref pl, .ref tl], 0, .ref pl, rfl, rfl, sqt_of (w0.1 _ _ (s0 _ _ e1)), rfl, q1⟩) (fun i σ' H' => ∃ o4 o5 o6, σ' = [some (.ref p), some (.ref nd), some (.ref pa), some (.ref sd), o4, o5, o6] ∧ PartsI H0 pa sd ns ((ns.take i).foldl (pstep ts) []) H')
      ⟨_, _, _, rfl, w0⟩ (fun i σ' H' _ ⟨_, _, _, _, wi⟩ => sql_of (wi.1 _ _ (s0 _ _ e2))) ?_ ?_
    · rintro i v σ2 H2 hx ⟨o4, o5, o6, rfl, s2, ⟨qs, eq, hq⟩, ks, es, hmem, hks, hkn⟩
      obtain ⟨z, hz, rfl⟩ := map_get hx
      have hzn := List.mem_of_getElem? hz
      have hkl : ks.length ≤ 200 := Nat.le_trans (sub_len hks hkn) g.few
      refine r_gname ?_
      refine ⟨.str z, rfl, .ref sd, rfl, sd, _, rfl, DGet.k (k := Sum.inr z) es, _, rfl, ?_⟩
      rw [valV_seen]
      have hst : (ns.take (i + 1)).foldl (pstep ts) [] = pstep ts ((ns.take i).foldl (pstep ts) []) z := foldl_snoc hz
      have hpl : ((ns.take i).foldl (pstep ts) []).length ≤ ns.length := by
        rw [(pin g.gr g.asc i).len]
        exact Nat.le_trans (List.length_filter_le _ _) (by rw [List.length_take]; omega)
      generalize (ns.take i).foldl (pstep ts) [] = ps at hq hmem hst hpl ⊢
      by_cases hin : z ∈ ks
      · rw [if_pos hin]
        refine ⟨_, _, _, rfl, s2, ?_⟩
        rw [hst]
        unfold pstep
        rw [if_pos ((hmem z).mp hin)]
        exact ⟨⟨qs, eq, hq⟩, ks, es, hmem, hks, hkn⟩
      · rw [if_neg hin]
        have hps : pstep ts ps z = ps ++ [compOf ts z] := by
          unfold pstep
          rw [if_neg (fun e => hin ((hmem z).mpr e))]
        refine rs_set ?_
        refine ⟨.ref nd, rfl, .str z, rfl, nd, z, fa, ns, ts, rfl, nl.keep s2, hzn, own.nm, by have := g.few; omega, g.gr.nbs, fun far fd' H3 hb hf s3 e nf => ?_⟩
        obtain ⟨n0, fk⟩ := id hf
        have few : far.length ≤ ns.length := fk.few
        refine ⟨fd', encF far, rfl, .inl e, fun ll nll => ?_⟩
        have ekeys : (encF far).map (fun kv => kV kv.1) = (far.map (·.1)).map V.str := by
          unfold encF
          rw [List.map_map, List.map_map]; rfl
        rw [ekeys]
        refine ⟨ll, far.map (·.1), rfl, sql_of upd_same, Nat.le_of_lt (smallM (by rw [List.length_map]; have := g.few; omega)), fun sl nsl => ?_⟩
        rw [← comp_eq hb]
        have hcl : (compOf ts z).length ≤ 200 := by
          rw [comp_eq hb, (sortS_perm _).length_eq, List.length_map]
          have := g.few
          omega
        have s34 := (s3.trans (same_upd (o := .lst ((far.map (·.1)).map V.str)) nll)).trans (same_upd (o := .lst ((compOf ts z).map V.str)) nsl)
        have esl : (upd (upd H3 ll (.lst ((far.map (·.1)).map V.str))) sl (.lst ((compOf ts z).map V.str))) sl = some (.lst ((compOf ts z).map V.str)) := upd_same
        generalize (upd (upd H3 ll (.lst ((far.map (·.1)).map V.str))) sl (.lst ((compOf ts z).map V.str))) = H4 at s34 esl ⊢
        have eq4 := s34 _ _ eq
        refine rs_bm ⟨.ref pa, rfl, .inl ⟨rfl, _, sql_of eq4⟩, .ref sl, rfl, sl, _, rfl, .inl ⟨sql_of esl, fun pt npt => ?_⟩⟩
        have s35 := s34.trans (same_upd (o := .tup ((compOf ts z).map V.str)) npt)
        have esl5 := (same_upd (o := .tup ((compOf ts z).map V.str)) npt) _ _ esl
        have ept : (upd H4 pt (.tup ((compOf ts z).map V.str))) pt = some (.tup ((compOf ts z).map V.str)) := upd_same
        generalize (upd H4 pt (.tup ((compOf ts z).map V.str))) = H5 at s35 esl5 ept ⊢
        have eq5 := s35 _ _ eq
        have hql : qs.length ≤ 200 := by rw [Paired.length hq]; have := g.few; omega
        refine ⟨pa, _, _, rfl, rfl, eq5, smallM (by rw [List.length_map]; omega), ?_⟩
        have nptpa : pt ≠ pa := ne_of ept eq5 (fun z => nomatch z)
        have nslpa : sl ≠ pa := by
          rintro rfl
          rw [eq4] at esl
          have hz2 : z ∈ compOf ts z := (mem_comp g.gr hzn).mpr (.refl z)
          cases hc : compOf ts z with
          | nil => rw [hc] at hz2; cases hz2
          | cons c cs =>
            rw [hc] at esl
            cases qs with
            | nil => cases esl
            | cons q0 qs => cases esl
        have npas : pa ≠ sd := npsd
        have wJ : ∀ H', H' = upd H5 pa (.lst (qs.map V.ref ++ [.ref pt])) → Same H0 H' ∧ H' pa = some (.lst ((qs ++ [pt]).map V.ref)) ∧ Paired (PartT H') (qs ++ [pt]) (ps ++ [compOf ts z]) ∧ H' sd = some (.dK (encS ks)) ∧ H' sl = some (.lst ((compOf ts z).map V.str)) := by
          rintro H' rfl
          refine ⟨fun b o e => ?_, by rw [upd_same, List.map_append]; rfl, ?_, by rw [upd_ne (Ne.symm npas)]; exact s35 _ _ es, by rw [upd_ne nslpa]; exact esl5⟩
          · rw [upd_ne (ne_of_none e npa)]
            exact s35 _ _ (s2 _ _ e)
          · refine paired_snoc (F := PartT _) (by show (upd H5 pa _) pt = _; rw [upd_ne nptpa]; exact ept) (paired_mono (fun q part e => ?_) hq)
            have e5 := s35 _ _ (show H2 q = _ from e)
            show (upd H5 pa _) q = _
            rw [upd_ne (ne_of e5 eq5 (fun z => nomatch z))]
            exact e5
        obtain ⟨w1, w2, w3, w4, w5⟩ := wJ _ rfl
        generalize (upd H5 pa (.lst (qs.map V.ref ++ [.ref pt]))) = H6 at w1 w2 w3 w4 w5 ⊢
        refine ⟨.ref sl, rfl, sl, rfl, ⟨_, sql_of w5⟩, for_list (xs := (compOf ts z).map V.str) (fun j σ' H' => ∃ o6', σ' = [some (.ref p), some (.ref nd), some (.ref pa), some (.ref sd), some (.str z), some (.ref sl), o6'] ∧ Same H0 H' ∧ H' pa = some (.lst ((qs ++ [pt]).map V.ref)) ∧ Paired (PartT H') (qs ++ [pt]) (ps ++ [compOf ts z]) ∧ H' sd = some (.dK (encS (putAll ks ((compOf ts z).take j)))) ∧ H' sl = some (.lst ((compOf ts z).map V.str)))
          ⟨_, rfl, w1, w2, w3, w4, w5⟩ (fun j σ' H' _ ⟨_, _, _, _, _, _, e⟩ => sql_of e) ?_ ?_⟩
        · rintro j v σ3 H7 hv ⟨o6', rfl, u1, u2, u3, u4, u5⟩
          obtain ⟨y, hy, rfl⟩ := map_get hv
          refine r_gname ?_
          have hpn : ∀ u ∈ putAll ks ((compOf ts z).take j), u ∈ ns := fun u hu => by
            rcases putAll_mem.mp hu with a | a
            · exact hkn u a
            · exact ((mem_comp g.gr hzn).mp (List.mem_of_mem_take a)).within g.gr hzn
          have hpl2 : (putAll ks ((compOf ts z).take j)).length ≤ 200 := Nat.le_trans (sub_len (putAll_nd hks) hpn) g.few
          refine ⟨.ref sd, rfl, .str y, rfl, sd, _, rfl, DPut.k (k := Sum.inr y) u4 (smallM (by rw [List.length_map]; omega)), ?_⟩
          rw [putS, ← putAll_snoc hy]
          refine ⟨_, rfl, fun b o e => ?_, ?_, ?_, upd_same, ?_⟩
          · rw [upd_ne (ne_of_none e nsd0)]; exact u1 _ _ e
          · rw [upd_ne npas]; exact u2
          · refine paired_mono (fun q part e => ?_) u3
            show (upd H7 sd _) q = _
            rw [upd_ne (ne_of (show H7 q = _ from e) u4 (fun z => nomatch z))]
            exact e
          · rw [upd_ne (ne_of u5 u4 (fun z => nomatch z))]; exact u5
        · rintro σ3 H7 ⟨o6', rfl, u1, u2, u3, u4, u5⟩
          rw [List.length_map, List.take_length] at u4
          refine ⟨_, _, _, rfl, u1, ⟨_, u2, ?_⟩, _, u4, fun u => ?_, putAll_nd hks, fun u hu => ?_⟩
          · rw [hst, hps]; exact u3
          · rw [hst, hps, List.flatten_append, List.mem_append, putAll_mem, hmem u]
            simp
          · rcases putAll_mem.mp hu with a | a
            · exact hkn u a
            · exact ((mem_comp g.gr hzn).mp a).within g.gr hzn
    · rintro σ2 H2 ⟨o4, o5, o6, rfl, s2, ⟨qs, eq, hq⟩, _⟩
      rw [List.length_map, List.take_length] at hq
      have hp := parts_in g.gr g.asc
      have hql : qs.length ≤ 200 := by
        rw [Paired.length hq]
        have := hp.len
        rw [List.take_length] at this
        show (partsL ns ts).length ≤ 200
        rw [this]
        exact Nat.le_trans (List.length_filter_le _ _) g.few
      have hq : Paired (PartT H2) qs (partsL ns ts) := hq
      obtain ⟨l, hl1, hl2, hl3⟩ := zip_of hq
      have b1 : (l.map fun x => (V.ref x.1, partD x.2)).map (·.1) = qs.map V.ref := by rw [List.map_map, ← hl1, List.map_map]; rfl
      have b2 : (l.map fun x => (V.ref x.1, partD x.2)).map (·.2) = (partsL ns ts).map partD := by rw [List.map_map, ← hl2, List.map_map]; rfl
      refine ⟨.ref pa, rfl, pa, l.map fun x => (V.ref x.1, partD x.2), rfl, by rw [b1]; exact sql_of eq, fun b hb => ?_, ?_, ?_, ?_, fun p1 np1 => ?_⟩
      · obtain ⟨x, hx, rfl⟩ := List.mem_map.mp hb
        exact ⟨.tup (sqt_of (hl3 x hx)) (dp_strs _), Nat.le_trans (depth_part _) (by decide)⟩
      · rw [b2]
        intro d hd d' hd'
        obtain ⟨p, _, rfl⟩ := List.mem_map.mp hd
        obtain ⟨p', _, rfl⟩ := List.mem_map.mp hd'
        exact alike_part p p'
      · rw [b2]
        refine .inl fun d hd => ?_
        obtain ⟨p, hp', rfl⟩ := List.mem_map.mp hd
        obtain ⟨u, _, _, r, hr'⟩ := hp.each p hp'
        rw [hr']
        exact ⟨.str u, r.map PyData.str, rfl⟩
      · rw [List.length_map]
        have : l.length = qs.length := by rw [← hl1, List.length_map]
        rw [this]
        exact Nat.le_of_lt (smallM (by omega))
      · have em : (l.map fun x => (V.ref x.1, partD x.2)).mergeSort (PySem.W.dataLe false (·.2)) = l.map fun x => (V.ref x.1, partD x.2) := by
          refine List.mergeSort_of_pairwise ?_
          rw [List.pairwise_map]
          have ho := hp.ord
          rw [← hl2, List.pairwise_map] at ho
          refine ho.imp fun {x y} ⟨a, r, b, r', ea, eb, hab⟩ => ?_
          rw [PySem.W.dataLe_eq]
          show (!PySem.W.dataLt (partD y.2) (partD x.2)) = true
          rw [ea, eb, dataLe_part hab]; rfl
        rw [em, b1]
        refine ⟨p1, _, rfl, .inl ⟨sql_of upd_same, fun p2 np2 => ?_⟩⟩
        have s4 := (same_upd (o := .lst (qs.map V.ref)) np1).trans (same_upd (o := .tup (qs.map V.ref)) np2)
        exact q p2 _ ⟨qs, upd_same, paired_mono (fun q part e => s4 _ _ e) hq⟩ ((s0.trans s2).trans s4)
end
end Hw

set_option Elab.async false
set_option linter.all false
set_option maxRecDepth 100000
set_option maxHeartbeats 4000000
namespace Hw
open PySem L2 PyProof.Rows
abbrev sFarthest : Stmt := topS 19
noncomputable section
open Classical
/-! the pair that is farthest -/
abbrev Best := Nat × Str × Str
def farOf (ts : List Tie) (p : Str) : Far := if h : ∃ far, Bfs (nbr ts) p far then Classical.choose h else []
theorem farOf_eq {ts : List Tie} {p : Str} {far : Far} (h : Bfs (nbr ts) p far) : farOf ts p = far := by
  have hx : ∃ far, Bfs (nbr ts) p far := ⟨far, h⟩
  unfold farOf
  rw [dif_pos hx]
  exact (Classical.choose_spec hx).uniq h
def dOf (ts : List Tie) (p y : Str) : Nat := lookF (farOf ts p) y
def bstep (ts : List Tie) (one : Str) (b : Best) (other : Str) : Best := if b.1 < dOf ts one other then (dOf ts one other, one, other) else b
def codeIn (ts : List Tie) (b : Best) (one : Str) : Best := (compOf ts one).foldl (bstep ts one) b
def codeBest (ns : List Str) (ts : List Tie) : Best := ns.foldl (codeIn ts) (0, ns.headD (Str.ofString ""), ns.headD (Str.ofString ""))
def lstep (ts : List Tie) (one : Str) (b : Option Best) (other : Str) : Option Best :=
  if other ∈ compOf ts one ∧ strLt other one = false ∧ (b = none ∨ ∃ c, b = some c ∧ c.1 < dOf ts one other) then some (dOf ts one other, one, other) else b
def lawIn (ns : List Str) (ts : List Tie) (b : Option Best) (one : Str) : Option Best := ns.foldl (lstep ts one) b
def lawBest (ns : List Str) (ts : List Tie) : Option Best := ns.foldl (lawIn ns ts) none
theorem asc_ext : ∀ {l m : List Str}, Asc l → Asc m → (∀ z, z ∈ l ↔ z ∈ m) → l = m := by
  intro l m hl hm h
  have hp : l.Perm m := (List.perm_ext_iff_of_nodup hl.nodup hm.nodup).mpr h
  rw [sortS_eq hp hl.le, sortS_asc_id hm]
theorem comp_filter {ns : List Str} {ts : List Tie} (g : Gr ns ts) (ha : Asc ns) {p : Str} (hp : p ∈ ns) : compOf ts p = ns.filter fun z => decide (z ∈ compOf ts p) := by
  refine asc_ext (comp_asc g hp) (ha.filter _) fun z => ?_
  rw [List.mem_filter, decide_eq_true_iff]
  exact ⟨fun h => ⟨((mem_comp g hp).mp h).within g hp, h⟩, fun h => h.2⟩
theorem d_sym {ns : List Str} {ts : List Tie} (g : Gr ns ts) {p y : Str} (hp : p ∈ ns) (hy : y ∈ ns) (h : y ∈ compOf ts p) : dOf ts p y = dOf ts y p := by
  obtain ⟨f1, b1, _⟩ := bfs_ex g.nbs hp
  obtain ⟨f2, b2, _⟩ := bfs_ex g.nbs hy
  have e := far_sym (nbr_sym ts) b1 b2
  unfold dOf
  rw [farOf_eq b1, farOf_eq b2]
  have m1 : y ∈ f1.map (·.1) := by
    rw [comp_eq b1, (sortS_perm _).mem_iff] at h
    exact h
  have m2 : p ∈ f2.map (·.1) := by
    have : p ∈ compOf ts y := (mem_comp g hy).mpr ((mem_comp g hp).mp h).symm
    rw [comp_eq b2, (sortS_perm _).mem_iff] at this
    exact this
  unfold farV at e
  rw [if_pos m1, if_pos m2] at e
  injection e with e
  omega
theorem d_self {ns : List Str} {ts : List Tie} (g : Gr ns ts) {p : Str} (hp : p ∈ ns) : dOf ts p p = 0 := by
  obtain ⟨f1, b1, _⟩ := bfs_ex g.nbs hp
  have l := b1.least
  have := (l.2 p ((l.1 p).mpr ⟨0, rfl⟩)).2 0 rfl
  unfold dOf
  rw [farOf_eq b1]
  omega
theorem bstep_ge (ts : List Tie) (one : Str) (b : Best) (other : Str) : b.1 ≤ (bstep ts one b other).1 ∧ dOf ts one other ≤ (bstep ts one b other).1 := by
  unfold bstep
  by_cases h : b.1 < dOf ts one other
  · rw [if_pos h]
    exact ⟨Nat.le_of_lt h, Nat.le_refl _⟩
  · rw [if_neg h]
    exact ⟨Nat.le_refl _, by omega⟩
theorem fold_ge (ts : List Tie) (one : Str) : ∀ (l : List Str) (b : Best), b.1 ≤ (l.foldl (bstep ts one) b).1 ∧ ∀ y ∈ l, dOf ts one y ≤ (l.foldl (bstep ts one) b).1
  | [], b => ⟨Nat.le_refl _, fun _ z => nomatch z⟩
  | x :: l, b => by
    obtain ⟨h1, h2⟩ := fold_ge ts one l (bstep ts one b x)
    obtain ⟨h3, h4⟩ := bstep_ge ts one b x
    refine ⟨Nat.le_trans h3 h1, fun y hy => ?_⟩
    rcases List.mem_cons.mp hy with rfl | hy
    · exact Nat.le_trans h4 h1
    · exact h2 y hy
/-- a round, both ways: those ahead of it were seen from there -/
theorem round_eq {ts : List Tie} {one : Str} : ∀ (l : List Str) (c : Best), (∀ y ∈ l, y ∈ compOf ts one → strLt y one = true → dOf ts one y ≤ c.1) → l.foldl (lstep ts one) (some c) = some ((l.filter fun z => decide (z ∈ compOf ts one)).foldl (bstep ts one) c)
  | [], c, _ => rfl
  | x :: l, c, h => by
    have hx := h x List.mem_cons_self
    have ht : ∀ c' : Best, c.1 ≤ c'.1 → ∀ y ∈ l, y ∈ compOf ts one → strLt y one = true → dOf ts one y ≤ c'.1 := fun c' hc y hy hm hl => Nat.le_trans (h y (List.mem_cons_of_mem _ hy) hm hl) hc
    rw [List.foldl_cons]
    by_cases hm : x ∈ compOf ts one
    · rw [List.filter_cons_of_pos (by exact decide_eq_true hm), List.foldl_cons]
      have e : lstep ts one (some c) x = some (bstep ts one c x) := by
        unfold lstep bstep
        by_cases hl : strLt x one = true
        · have hd := hx hm hl
          rw [if_neg (by rintro ⟨_, e, _⟩; rw [hl] at e; cases e), if_neg (by omega)]
        · have hl' : strLt x one = false := by simpa using hl
          by_cases hd : c.1 < dOf ts one x
          · rw [if_pos ⟨hm, hl', .inr ⟨c, rfl, hd⟩⟩, if_pos hd]
          · rw [if_neg (by
              rintro ⟨_, _, e | ⟨c', e, hd'⟩⟩
              · cases e
              · cases e; exact hd hd'), if_neg hd]
      rw [e]
      exact round_eq l _ (ht _ (bstep_ge ts one c x).1)
    · rw [List.filter_cons_of_neg (by simpa using hm)]
      have e : lstep ts one (some c) x = some c := by
        unfold lstep
        rw [if_neg fun z => hm z.1]
      rw [e]
      exact round_eq l c (ht c (Nat.le_refl _))
theorem rounds {ns : List Str} {ts : List Tie} (g : Gr ns ts) (ha : Asc ns) : ∀ (l pre : List Str) (c : Best), pre ++ l = ns → (∀ u ∈ pre, ∀ y ∈ compOf ts u, dOf ts u y ≤ c.1) → l.foldl (lawIn ns ts) (some c) = some (l.foldl (codeIn ts) c)
  | [], _, _, _, _ => rfl
  | x :: l, pre, c, he, h => by
    have hx : x ∈ ns := by rw [← he]; exact List.mem_append_right _ List.mem_cons_self
    have e : lawIn ns ts (some c) x = some (codeIn ts c x) := by
      unfold lawIn codeIn
      rw [round_eq ns c fun y hy hm hl => ?_, ← comp_filter g ha hx]
      -- y is ahead of x
      have hyp : y ∈ pre := by
        rw [← he] at hy
        rcases List.mem_append.mp hy with hy | hy
        · exact hy
        · exfalso
          rw [← he] at ha
          have h2 := (List.pairwise_append.mp ha).2.1
          rcases List.mem_cons.mp hy with rfl | hy
          · rw [strLt_irr] at hl; cases hl
          · have := (List.pairwise_cons.mp h2).1 y hy
            rw [strLt_as this] at hl; cases hl
      rw [d_sym g hx hy hm]
      exact h y hyp x ((mem_comp g hy).mpr ((mem_comp g hx).mp hm).symm)
    rw [List.foldl_cons, List.foldl_cons, e]
    refine rounds g ha l (pre ++ [x]) _ (by rw [List.append_assoc]; exact he) fun u hu y hy => ?_
    have hc := fold_ge ts x (compOf ts x) c
    rcases List.mem_append.mp hu with hu | hu
    · exact Nat.le_trans (h u hu y hy) hc.1
    · rw [List.mem_singleton.mp hu] at hy ⊢
      exact hc.2 y hy
/-- both ways tell the same -/
theorem best_eq {ns : List Str} {ts : List Tie} (g : Gr ns ts) (ha : Asc ns) (hne : 0 < ns.length) : lawBest ns ts = some (codeBest ns ts) := by
  cases hn : ns with
  | nil => rw [hn] at hne; cases hne
  | cons p0 l =>
    rw [← hn]
    have hp : p0 ∈ ns := by rw [hn]; exact List.mem_cons_self
    have hd : ns.headD (Str.ofString "") = p0 := by rw [hn]; rfl
    have hpp : p0 ∈ compOf ts p0 := (mem_comp g hp).mpr (.refl p0)
    have e1 : lawIn ns ts none p0 = some (codeIn ts (0, p0, p0) p0) := by
      have a1 : lawIn ns ts none p0 = l.foldl (lstep ts p0) (some (0, p0, p0)) := by
        unfold lawIn
        rw [hn, List.foldl_cons]
        congr 1
        unfold lstep
        rw [if_pos ⟨hpp, strLt_irr p0, .inl rfl⟩, d_self g hp]
      have a2 : codeIn ts (0, p0, p0) p0 = (l.filter fun z => decide (z ∈ compOf ts p0)).foldl (bstep ts p0) (0, p0, p0) := by
        have a3 : bstep ts p0 (0, p0, p0) p0 = (0, p0, p0) := by
          unfold bstep
          rw [if_neg (by rw [d_self g hp]; exact Nat.lt_irrefl _)]
        have hcf : compOf ts p0 = (p0 :: l).filter fun z => decide (z ∈ compOf ts p0) := by
          have := comp_filter g ha hp
          rw [hn] at this
          exact this
        have a4 : (compOf ts p0).foldl (bstep ts p0) (0, p0, p0) = ((p0 :: l).filter fun z => decide (z ∈ compOf ts p0)).foldl (bstep ts p0) (0, p0, p0) := congrArg (fun L : List Str => L.foldl (bstep ts p0) (0, p0, p0)) hcf
        show (compOf ts p0).foldl (bstep ts p0) (0, p0, p0) = _
        rw [a4, List.filter_cons_of_pos (by exact decide_eq_true hpp), List.foldl_cons, a3]
      rw [a1, a2]
      refine round_eq l _ fun y hy _ hl => ?_
      rw [hn] at ha
      have := (List.pairwise_cons.mp ha).1 y hy
      rw [strLt_as this] at hl; cases hl
    unfold lawBest codeBest
    rw [hd]
    have q1 : ns.foldl (lawIn ns ts) none = l.foldl (lawIn ns ts) (lawIn ns ts none p0) := congrArg (fun L : List Str => L.foldl (lawIn ns ts) none) hn
    have q2 : ns.foldl (codeIn ts) (0, p0, p0) = l.foldl (codeIn ts) (codeIn ts (0, p0, p0) p0) := congrArg (fun L : List Str => L.foldl (codeIn ts) (0, p0, p0)) hn
    rw [q1, q2]
    rw [e1]
    refine rounds g ha l [p0] _ hn.symm fun u hu y hy => ?_
    rw [List.mem_singleton.mp hu] at hy ⊢
    exact (fold_ge ts p0 (compOf ts p0) _).2 y hy
end
end Hw

set_option Elab.async false
set_option linter.all false
set_option maxRecDepth 100000
set_option maxHeartbeats 4000000
namespace Hw
open PySem L2 PyProof.Rows
def BestT (H : Hp) (bt : Addr) (b : Best) : Prop := H bt = some (.tup [.int (b.1 : Nat), .str b.2.1, .str b.2.2])
def spFarthest (C : Addr) : Sp := fun vs H Q _ => ∃ (x : Addr) (ns : List Str) (ts : List Tie), vs = [.ref x] ∧ WebO C H x ns ts ∧ 0 < ns.length ∧ ns.length < 64 ∧ ∀ bt H', BestT H' bt (codeBest ns ts) → Same H H' → Q (.ref bt) H'
section
variable {P : Program} {w : World} {K : PySem.W.Frag} {mg : Str → Option Value} {base : Heap}
theorem scFarthest : FnScope ["web", "best", "one", "far", "other"] ["web"] (defScope sFarthest) := ⟨rfl, rfl, rfl, by decide +kernel, rfl, by decide +kernel, by decide +kernel⟩
theorem ok_farthest {f fB C : Addr} {fd fdB : FuncData} {k : Nat} (F : Fun K "farthest" "farthest" sFarthest f fd) (T : TxtW K mg C) (B3 : Blt3 mg)
    (mB : Meth K C "far_by_place" fB) (GB : FnOk P w K mg base CX0 k fB fdB ["self", "place"] (spFarBy C)) (bB : Binds K fdB ["self", "place"] []) : FnOk P w K mg base CX0 (k + 1) f fd ["web"] (spFarthest C) := by
  refine F.ok scFarthest (fun vs H Q E h => ?_) (fun cdv A outer s H vs Q E hr h => ?_)
  · obtain ⟨x, ns, ts, rfl, _⟩ := h
    rfl
  · obtain ⟨x, ns, ts, rfl, wb, h0, h64, q⟩ := h
    have hu := hu_of hr
    refine ⟨_, pss_cons (ps_if (pt_not (pt_truth (pe_fld (pv 0) rfl) (by intro _; rfl))) (pss_one ps_never) pss_nil)
      (pss_cons (ps_set (i := 1) scFarthest.nd rfl (.inl rfl) (pe_tup (pa_cons pe_int (pa_cons (pe_ix ix_tup (pe_fld (pv 0) rfl) pe_int (fun _ _ => rfl)) (pa_cons (pe_ix ix_tup (pe_fld (pv 0) rfl) pe_int (fun _ _ => rfl)) pa_nil)))))
      (pss_cons (ps_for PassesOwn.never rfl (pi_tup (pe_fld (pv 0) rfl)) (pg_name (i := 2) scFarthest.nd rfl (.inl rfl))
        (pss_cons (ps_set (i := 3) scFarthest.nd rfl (.inl rfl) (pe_meth (pv 0) T.cl mB GB hr bB .nil pass0 (pa_cons (pv 2) pa_nil)))
        (pss_one (ps_for PassesOwn.never rfl (pi_list (pe_callB (call_sortedD rfl) (by rfl) B3.sorted PyProof.Rows.boot_sorted (pa_cons (pv 3) pa_nil))) (pg_name (i := 4) scFarthest.nd rfl (.inl rfl))
          (pss_one (ps_if (pt_cmpR op_gt (pe_dget hu (pv 3) (pv 4) (fun _ _ => rfl)) (pe_ix ix_tup (pv 1) pe_int (fun _ _ => rfl)) (nomark _))
            (pss_one (ps_set (i := 1) scFarthest.nd rfl (.inl rfl) (pe_tup (pa_cons (pe_dget hu (pv 3) (pv 4) (fun _ _ => rfl)) (pa_cons (pv 2) (pa_cons (pv 4) pa_nil)))))) pss_nil))))))
      (pss_one (ps_ret (pv 1))))), ?_⟩
    obtain ⟨⟨dx, pl, t, d, fa, h1, ⟨hp1, tq, hp2, hp3⟩, h3⟩, g⟩ := id wb
    have hp0 : (ns.map V.str)[0]? = some (.str (ns.headD (Str.ofString ""))) := by
      cases hn : ns with
      | nil => rw [hn] at h0; cases h0
      | cons p l => rfl
    refine rs_no ?_
    have hne : true = !(ns.map V.str).isEmpty := by
      cases hn : ns with
      | nil => rw [hn] at h0; cases h0
      | cons p l => rfl
    refine ⟨.ref x, rfl, x, C, dx, _, _, rfl, h1, T.cl, T.nP, wfl_places _ _ _ _, true, .inr (.inl ⟨_, sqt_of hp1, hne⟩), ?_⟩
    refine rs_set ?_
    refine ⟨.ref x, rfl, x, C, dx, _, _, rfl, h1, T.cl, T.nP, wfl_places _ _ _ _, pl, _, 0, _, rfl, rfl, sqt_of hp1, atI_nat (j := 0) hp0, .ref x, rfl, x, C, dx, _, _, rfl, h1, T.cl, T.nP, wfl_places _ _ _ _, pl, _, 0, _, rfl, rfl, sqt_of hp1, atI_nat (j := 0) hp0, by show 3 ≤ sizeLine; decide, fun bt nbt => ?_⟩
    have s1 := same_upd (o := .tup [.int 0, .str (ns.headD (Str.ofString "")), .str (ns.headD (Str.ofString ""))]) nbt
    have eb : BestT (upd H bt (.tup [.int 0, .str (ns.headD (Str.ofString "")), .str (ns.headD (Str.ofString ""))])) bt (0, ns.headD (Str.ofString ""), ns.headD (Str.ofString "")) := upd_same
    generalize (upd H bt (.tup [.int 0, .str (ns.headD (Str.ofString "")), .str (ns.headD (Str.ofString ""))])) = H1 at s1 eb ⊢
    refine rs_tup pl (ns.map V.str) (fun Q1 q1 => ⟨.ref x, rfl, x, C, dx, _, _, rfl, s1 _ _ h1, T.cl, T.nP, wfl_places _ _ _ _, q1⟩) (fun i σ' H' => ∃ b o2 o3 o4, σ' = [some (.ref x), some (.ref b), o2, o3, o4] ∧ Same H H' ∧ BestT H' b ((ns.take i).foldl (codeIn ts) (0, ns.headD (Str.ofString ""), ns.headD (Str.ofString ""))))
      ⟨_, _, _, _, rfl, s1, eb⟩ (fun i σ' H' _ ⟨_, _, _, _, _, sx, _⟩ => sqt_of (sx _ _ hp1)) ?_ ?_
    · rintro i v σ2 H2 hx ⟨b, o2, o3, o4, rfl, s2, eb2⟩
      obtain ⟨z, hz, rfl⟩ := map_get hx
      have hzn := List.mem_of_getElem? hz
      refine r_gname ?_
      have hst : (ns.take (i + 1)).foldl (codeIn ts) (0, ns.headD (Str.ofString ""), ns.headD (Str.ofString "")) = codeIn ts ((ns.take i).foldl (codeIn ts) (0, ns.headD (Str.ofString ""), ns.headD (Str.ofString ""))) z := foldl_snoc hz
      generalize (ns.take i).foldl (codeIn ts) (0, ns.headD (Str.ofString ""), ns.headD (Str.ofString "")) = c at eb2 hst
      refine rs_set ?_
      refine ⟨.ref x, rfl, x, dx, _, rfl, s2 _ _ h1, wfl_no _ _ _ _ (by decide +kernel) (by decide +kernel) (by decide +kernel) (by decide +kernel), .str z, rfl, x, z, ns, ts, rfl, wb.keep s2, hzn, fun far fd' H3 hb hf s3 e nf => ?_⟩
      obtain ⟨n0, fk⟩ := id hf
      have few : far.length ≤ ns.length := fk.few
      refine ⟨.ref fd', rfl, fd', encF far, far.map (·.1), rfl, .inl e, by unfold encF; rw [List.map_map, List.map_map]; rfl, by rw [List.length_map]; omega, fun ys sl hperm hsrt nsl => ?_⟩
      rw [sortedS_eq hperm hsrt, ← comp_eq hb]
      have s4 := (s2.trans s3).trans (same_upd (o := .lst ((compOf ts z).map V.str)) nsl)
      have e4 := (same_upd (o := .lst ((compOf ts z).map V.str)) nsl) _ _ e
      have esl : (upd H3 sl (.lst ((compOf ts z).map V.str))) sl = some (.lst ((compOf ts z).map V.str)) := upd_same
      have eb4 : BestT (upd H3 sl (.lst ((compOf ts z).map V.str))) b c := (same_upd nsl) _ _ (s3 _ _ eb2)
      generalize (upd H3 sl (.lst ((compOf ts z).map V.str))) = H4 at s4 e4 esl eb4 ⊢
      refine ⟨sl, rfl, ⟨_, sql_of esl⟩, for_list (xs := (compOf ts z).map V.str) (fun j σ' H' => ∃ b' o4', σ' = [some (.ref x), some (.ref b'), some (.str z), some (.ref fd'), o4'] ∧ Same H4 H' ∧ BestT H' b' (((compOf ts z).take j).foldl (bstep ts z) c)) ⟨_, _, rfl, Same.refl _, eb4⟩ (fun j σ' H' _ ⟨_, _, _, sx, _⟩ => sql_of (sx _ _ esl)) ?_ ?_⟩
      · rintro j v σ3 H5 hv ⟨b', o4', rfl, s5, eb5⟩
        obtain ⟨y, hy, rfl⟩ := map_get hv
        have hym : y ∈ far.map (·.1) := by
          have := List.mem_of_getElem? hy
          rw [comp_eq hb, (sortS_perm _).mem_iff] at this
          exact this
        have gd : DGet H5 fd' (.str y) (some (.int (dOf ts z y : Nat))) := by
          have := DGet.k (k := Sum.inr y) (s5 _ _ e4)
          rw [valV_far, if_pos hym] at this
          unfold dOf
          rw [farOf_eq hb]
          exact this
        have hst2 : ((compOf ts z).take (j + 1)).foldl (bstep ts z) c = bstep ts z (((compOf ts z).take j).foldl (bstep ts z) c) y := foldl_snoc hy
        generalize ((compOf ts z).take j).foldl (bstep ts z) c = c2 at eb5 hst2
        refine r_gname ?_
        refine ⟨.ref fd', rfl, .str y, rfl, fd', _, rfl, gd, .ref b', rfl, b', _, 0, _, rfl, rfl, sqt_of eb5, atI_nat (j := 0) rfl, _, _, rfl, rfl, _, rfl, ?_⟩
        by_cases hl : c2.1 < dOf ts z y
        · rw [decide_eq_true (show ((c2.1 : Nat) : Int) < (dOf ts z y : Nat) by omega)]
          show if true = true then _ else _
          rw [if_pos rfl]
          refine ⟨.ref fd', rfl, .str y, rfl, fd', _, rfl, gd, .str z, rfl, .str y, rfl, by show 3 ≤ sizeLine; decide, fun nb nnb => ⟨nb, _, rfl, s5.trans (same_upd nnb), ?_⟩⟩
          rw [hst2]
          unfold bstep
          rw [if_pos hl]
          exact upd_same
        · rw [decide_eq_false (show ¬ ((c2.1 : Nat) : Int) < (dOf ts z y : Nat) by omega)]
          show if false = true then _ else _
          rw [if_neg Bool.false_ne_true]
          refine ⟨b', _, rfl, s5, ?_⟩
          rw [hst2]
          unfold bstep
          rw [if_neg hl]
          exact eb5
      · rintro σ3 H5 ⟨b', o4', rfl, s5, eb5⟩
        rw [List.length_map, List.take_length] at eb5
        refine ⟨_, _, _, _, rfl, s4.trans s5, ?_⟩
        rw [hst]
        exact eb5
    · rintro σ2 H2 ⟨b, o2, o3, o4, rfl, s2, eb2⟩
      rw [List.length_map, List.take_length] at eb2
      exact ⟨.ref b, rfl, q b H2 eb2 s2⟩
end
end Hw

set_option Elab.async false
set_option linter.all false
set_option maxRecDepth 100000
set_option maxHeartbeats 4000000
namespace Hw
open PySem L2 PyProof.Rows
abbrev sLFar : Stmt := topS 33
def BestV (H : Hp) (v : V) : Option Best → Prop
  | none => v = .non
  | some c => ∃ bt, v = .ref bt ∧ BestT H bt c
theorem BestV.keep {H H' : Hp} {v : V} (s : Same H H') : ∀ {b : Option Best}, BestV H v b → BestV H' v b
  | none, h => h
  | some _, ⟨bt, e, hb⟩ => ⟨bt, e, s _ _ hb⟩
def spLFar : Sp := fun vs H Q _ => ∃ (p : Addr) (ns : List Str) (ts : List Tie), vs = [.ref p] ∧ OwnW ns ts ∧ WebAt H p ns ts ∧ ∀ v H', BestV H' v (lawBest ns ts) → Same H H' → Q v H'
section
variable {P : Program} {w : World} {K : PySem.W.Frag} {mg : Str → Option Value} {base : Heap}
theorem scLFar : FnScope ["own", "near", "best", "place", "fars", "other"] ["own"] (defScope sLFar) := ⟨rfl, rfl, rfl, by decide +kernel, rfl, by decide +kernel, by decide +kernel⟩
theorem ok_lfar {f fN fF : Addr} {fd fdN fdF : FuncData} {k : Nat} (F : Fun K "_law_farthest" "_law_farthest" sLFar f fd) (B : Blt mg) (GN : FnOk P w K mg base CX0 k fN fdN ["places", "ties"] spNear) (gN : mg "_law_near" = some (.ref fN)) (kN : PySem.W.keepIn K (.ref fN) = true) (bN : Binds K fdN ["places", "ties"] [])
    (GF : FnOk P w K mg base CX0 k fF fdF ["near", "name"] spFars) (gF : mg "_law_fars" = some (.ref fF)) (kF : PySem.W.keepIn K (.ref fF) = true) (bF : Binds K fdF ["near", "name"] []) : FnOk P w K mg base CX0 (k + 1) f fd ["own"] spLFar := by
  refine F.ok scLFar (fun vs H Q E h => ?_) (fun cdv A outer s H vs Q E hr h => ?_)
  · obtain ⟨p, ns, ts, rfl, _⟩ := h
    rfl
  · obtain ⟨p, ns, ts, rfl, own, ⟨pl, tl, tq, e1, e2, e3, e4⟩, q⟩ := h
    have hu := hu_of hr
    have g := own.good
    refine ⟨_, pss_cons (ps_par (i := 1) (j := 2) rfl scLFar.nd rfl rfl (by decide) rfl rfl (pa_cons (pe_call GN hr (by rfl) gN kN bN .nil pass0 (pa_cons (pe_ix ix_tup (pv 0) pe_int (fun _ _ => rfl)) (pa_cons (pe_ix ix_tup (pv 0) pe_int (fun _ _ => rfl)) pa_nil))) (pa_cons pe_non pa_nil)) rfl)
      (pss_cons (ps_for PassesOwn.never rfl (pi_list (pe_ix ix_tup (pv 0) pe_int (fun _ _ => rfl))) (pg_name (i := 3) scLFar.nd rfl (.inl rfl))
        (pss_cons (ps_set (i := 4) scLFar.nd rfl (.inl rfl) (pe_call GF hr (by rfl) gF kF bF .nil pass0 (pa_cons (pv 1) (pa_cons (pv 3) pa_nil))))
        (pss_one (ps_for PassesOwn.never rfl (pi_list (pe_ix ix_tup (pv 0) pe_int (fun _ _ => rfl))) (pg_name (i := 5) scLFar.nd rfl (.inl rfl))
          (pss_one (ps_if (PW.pt (pw_and (pt_cmp (pc_din hu (pv 5) (pv 4))) (pw_and (pt_cmpR op_ge_str (pv 5) (pv 3) (nomark _)) (pw_and1 (PW.pt (pw_or (pt_cmpR op_isN (pv 2) pe_non (nomark _)) (pw_or1 (pt_cmpR op_gt (pe_dget hu (pv 4) (pv 5) (fun _ _ => rfl)) (pe_ix ix_tup (pv 2) pe_int (fun _ _ => rfl)) (nomark _)))))))))
            (pss_one (ps_set (i := 2) scLFar.nd rfl (.inl rfl) (pe_tup (pa_cons (pe_callTy call_int1 (by rfl) B.int PyProof.Rows.boot_int (pa_cons (pe_dget hu (pv 4) (pv 5) (fun _ _ => rfl)) pa_nil)) (pa_cons (pv 3) (pa_cons (pv 5) pa_nil)))))) pss_nil))))))
      (pss_one (ps_ret (pv 2)))), ?_⟩
    refine rs_par ?_
    refine ⟨.ref p, rfl, p, [.ref pl, .ref tl], 0, .ref pl, rfl, rfl, sqt_of e1, rfl, .ref p, rfl, p, [.ref pl, .ref tl], 1, .ref tl, rfl, rfl, sqt_of e1, rfl, pl, tl, ns, ts, tq, rfl, own, e2, e3, e4, fun nd fa H0 s0 nl nd0 nf0 => ⟨_, _, rfl, ?_⟩⟩
    refine rs_list pl (ns.map V.str) (fun Q1 q1 => ⟨.ref p, rfl, p, [.ref pl, .ref tl], 0, .ref pl, rfl, rfl, sqt_of (s0 _ _ e1), rfl, q1⟩) (fun i σ' H' => ∃ v o3 o4 o5, σ' = [some (.ref p), some (.ref nd), some v, o3, o4, o5] ∧ Same H0 H' ∧ BestV H' v ((ns.take i).foldl (lawIn ns ts) none))
      ⟨_, _, _, _, rfl, Same.refl _, rfl⟩ (fun i σ' H' _ ⟨_, _, _, _, _, sx, _⟩ => sql_of (sx _ _ (s0 _ _ e2))) ?_ ?_
    · rintro i v σ2 H2 hx ⟨bv, o3, o4, o5, rfl, s2, eb⟩
      obtain ⟨z, hz, rfl⟩ := map_get hx
      have hzn := List.mem_of_getElem? hz
      refine r_gname ?_
      have hst : (ns.take (i + 1)).foldl (lawIn ns ts) none = lawIn ns ts ((ns.take i).foldl (lawIn ns ts) none) z := foldl_snoc hz
      generalize (ns.take i).foldl (lawIn ns ts) none = c at eb hst
      refine rs_set ?_
      refine ⟨.ref nd, rfl, .str z, rfl, nd, z, fa, ns, ts, rfl, nl.keep s2, hzn, own.nm, by have := g.few; omega, g.gr.nbs, fun far fd' H3 hb hf s3 e nf => ?_⟩
      have s03 := s2.trans s3
      refine ⟨.ref p, rfl, p, [.ref pl, .ref tl], 0, .ref pl, rfl, rfl, sqt_of (s03 _ _ (s0 _ _ e1)), rfl, pl, rfl, ⟨_, sql_of (s03 _ _ (s0 _ _ e2))⟩, for_list (xs := ns.map V.str) (fun j σ' H' => ∃ v' o5', σ' = [some (.ref p), some (.ref nd), some v', some (.str z), some (.ref fd'), o5'] ∧ Same H3 H' ∧ BestV H' v' ((ns.take j).foldl (lstep ts z) c)) ⟨_, _, rfl, Same.refl _, eb.keep s3⟩ (fun j σ' H' _ ⟨_, _, _, sx, _⟩ => sql_of (sx _ _ (s03 _ _ (s0 _ _ e2)))) ?_ ?_⟩
      · rintro j v σ3 H5 hv ⟨v', o5', rfl, s5, eb5⟩
        obtain ⟨y, hy, rfl⟩ := map_get hv
        have hst2 : (ns.take (j + 1)).foldl (lstep ts z) c = lstep ts z ((ns.take j).foldl (lstep ts z) c) y := foldl_snoc hy
        generalize (ns.take j).foldl (lstep ts z) c = c2 at eb5 hst2
        refine r_gname ?_
        have gd0 := DGet.k (k := Sum.inr y) (s5 _ _ e)
        rw [valV_far] at gd0
        have hmem : y ∈ compOf ts z ↔ y ∈ far.map (·.1) := by rw [comp_eq hb, (sortS_perm _).mem_iff]
        by_cases hym : y ∈ far.map (·.1)
        · rw [if_pos hym] at gd0
          have gd : DGet H5 fd' (.str y) (some (.int (dOf ts z y : Nat))) := by
            unfold dOf
            rw [farOf_eq hb]
            exact gd0
          refine ⟨.str y, rfl, .ref fd', rfl, fd', _, rfl, gd, _, rfl, ?_⟩
          refine ⟨.str y, rfl, .str z, rfl, y, z, rfl, rfl, _, rfl, ?_⟩
          -- what is behind the test
          have yes : lstep ts z c2 y = some (dOf ts z y, z, y) → ∃ H', Same H5 H' ∧ True := fun _ => ⟨H5, Same.refl _, trivial⟩
          clear yes
          by_cases hl : strLt y z = true
          · have e1' : (!decide (y.cps.toList < z.cps.toList)) = false := by
              have : decide (y.cps.toList < z.cps.toList) = true := hl
              rw [this]; rfl
            rw [e1']
            refine ⟨v', _, rfl, s5, ?_⟩
            rw [hst2]
            unfold lstep
            rw [if_neg (by rintro ⟨_, e, _⟩; rw [hl] at e; cases e)]
            exact eb5
          · have hl' : strLt y z = false := by simpa using hl
            have e1' : (!decide (y.cps.toList < z.cps.toList)) = true := by
              have : decide (y.cps.toList < z.cps.toList) = false := hl'
              rw [this]; rfl
            rw [e1']
            cases c2 with
            | none =>
              have ev : v' = .non := eb5
              subst ev
              refine ⟨.non, rfl, rfl, true, rfl, ?_⟩
              refine ⟨.ref fd', rfl, .str y, rfl, fd', _, rfl, gd, .inl ⟨_, rfl, .str z, rfl, .str y, rfl, by show 3 ≤ sizeLine; decide, fun nb nnb => ⟨_, _, rfl, s5.trans (same_upd nnb), ?_⟩⟩⟩
              rw [hst2]
              unfold lstep
              rw [if_pos ⟨hmem.mpr hym, hl', .inl rfl⟩]
              exact ⟨nb, rfl, upd_same⟩
            | some c3 =>
              obtain ⟨bt, ev, hbt⟩ := eb5
              subst ev
              refine ⟨.ref bt, rfl, rfl, false, congrArg V.bl (decide_eq_false (fun z => nomatch z)), ?_⟩
              refine ⟨.ref fd', rfl, .str y, rfl, fd', _, rfl, gd, .ref bt, rfl, bt, _, 0, _, rfl, rfl, sqt_of hbt, atI_nat (j := 0) rfl, _, _, rfl, rfl, _, rfl, ?_⟩
              by_cases hd : c3.1 < dOf ts z y
              · rw [decide_eq_true (show ((c3.1 : Nat) : Int) < (dOf ts z y : Nat) by omega)]
                refine ⟨.ref fd', rfl, .str y, rfl, fd', _, rfl, gd, .inl ⟨_, rfl, .str z, rfl, .str y, rfl, by show 3 ≤ sizeLine; decide, fun nb nnb => ⟨_, _, rfl, s5.trans (same_upd nnb), ?_⟩⟩⟩
                rw [hst2]
                unfold lstep
                rw [if_pos ⟨hmem.mpr hym, hl', .inr ⟨c3, rfl, hd⟩⟩]
                exact ⟨nb, rfl, upd_same⟩
              · rw [decide_eq_false (show ¬ ((c3.1 : Nat) : Int) < (dOf ts z y : Nat) by omega)]
                refine ⟨_, _, rfl, s5, ?_⟩
                rw [hst2]
                unfold lstep
                rw [if_neg (by
                  rintro ⟨_, _, e | ⟨c', e, hd'⟩⟩
                  · cases e
                  · cases e; exact hd hd')]
                exact ⟨bt, rfl, hbt⟩
        · rw [if_neg hym] at gd0
          refine ⟨.str y, rfl, .ref fd', rfl, fd', _, rfl, gd0, _, rfl, ?_⟩
          refine ⟨v', _, rfl, s5, ?_⟩
          rw [hst2]
          unfold lstep
          rw [if_neg fun a => hym (hmem.mp a.1)]
          exact eb5
      · rintro σ3 H5 ⟨v', o5', rfl, s5, eb5⟩
        rw [List.length_map, List.take_length] at eb5
        refine ⟨_, _, _, _, rfl, s03.trans s5, ?_⟩
        rw [hst]
        exact eb5
    · rintro σ2 H2 ⟨v, o3, o4, o5, rfl, s2, eb⟩
      rw [List.length_map, List.take_length] at eb
      exact ⟨v, rfl, q v H2 eb (s0.trans s2)⟩
end
end Hw

set_option Elab.async false
set_option linter.all false
set_option maxRecDepth 100000
set_option maxHeartbeats 4000000
namespace Hw
open PySem L2 PyProof.Rows
abbrev sIsWood : Stmt := topS 20
abbrev sLWood : Stmt := topS 34
def spIsWood (C : Addr) : Sp := fun vs H Q _ => ∃ (x : Addr) (ns : List Str) (ts : List Tie), vs = [.ref x] ∧ WebO C H x ns ts ∧ ns.length < 64 ∧ ∀ H', Same H H' → Q (.bl (decide (ts.length + (partsL ns ts).length = ns.length))) H'
def spLWood : Sp := fun vs H Q _ => ∃ (p : Addr) (ns : List Str) (ts : List Tie), vs = [.ref p] ∧ OwnW ns ts ∧ WebAt H p ns ts ∧ ∀ H', Same H H' → Q (.bl (decide (PP ns ts (ns.length + 1) = []))) H'
theorem filter_snoc {α : Type} {p : α → Bool} {xs : List α} {i : Nat} {x : α} (h : xs[i]? = some x) : (xs.take (i + 1)).filter p = (xs.take i).filter p ++ if p x = true then [x] else [] := by
  rw [take_snoc h, List.filter_append]
  congr 1
  by_cases hp : p x = true
  · rw [if_pos hp, List.filter_cons_of_pos hp, List.filter_nil]
  · rw [if_neg hp, List.filter_cons_of_neg hp, List.filter_nil]
theorem PP_in {ns : List Str} {ts : List Tie} {i : Nat} {x : Str} (h : x ∈ PP ns ts i) : x ∈ ns := by
  have := PP_sub (ns := ns) (ts := ts) (i := 0) (k := i) (by rw [Nat.zero_add]; exact h)
  exact this
theorem PP_asc {ns : List Str} {ts : List Tie} (ha : Asc ns) : ∀ i, Asc (PP ns ts i)
  | 0 => ha
  | i + 1 => (PP_asc ha i).filter _
theorem PP_len {ns : List Str} {ts : List Tie} : ∀ i, (PP ns ts i).length ≤ ns.length
  | 0 => Nat.le_refl _
  | i + 1 => Nat.le_trans (List.length_filter_le _ _) (PP_len i)
theorem own_PP {ns : List Str} {ts : List Tie} (o : OwnW ns ts) (i : Nat) : OwnW (PP ns ts i) (esIn ts (PP ns ts i)) :=
  ⟨PP_asc o.asc i, fun z hz => o.nm z (PP_in hz), Nat.le_trans (PP_len i) o.few, o.tasc.filter _, fun t ht => by
    obtain ⟨a, b, c⟩ := mem_esIn.mp ht
    exact ⟨b, c, (o.tie t a).2.2⟩, Nat.le_trans (List.length_filter_le _ _) o.tfew⟩
theorem esIn_all {ns : List Str} {ts : List Tie} (o : OwnW ns ts) : esIn ts ns = ts := by
  unfold esIn
  rw [List.filter_eq_self]
  intro t ht
  obtain ⟨a, b, _⟩ := o.tie t ht
  rw [decide_eq_true a, decide_eq_true b]; rfl
abbrev rLenS (K : PySem.W.Frag) : List V → Hp → VK → Prop := fun xs H Q => ∃ p ys, xs = [.ref p] ∧ (SqL K H p ys ∨ SqT K H p ys) ∧ Q (.int ys.length) H
theorem rs_t {te : TE} {g : TG} {u : TS} {D : Ends} {σ : L2.St} {H : Hp} (h : te σ H fun x H1 => g x σ H1 (u D)) : tSeq (tAsg te g) u D σ H := h
theorem g2_of {K : PySem.W.Frag} {σ : L2.St} {H : Hp} {i j : Nat} {p : Addr} {x y : V} {R : L2.St → Hp → Prop} (e : SqT K H p [x, y]) (h : R ((σ.set i (some x)).set j (some y)) H) : gTup K 2 (gCons (gName i) (gCons (gName j) gNil)) (.ref p) σ H R :=
  ⟨p, [x, y], rfl, e, rfl, _, [y], rfl, _, [], rfl, rfl, h⟩
theorem inV_str (z : Str) (zs : List Str) : inV (.str z) (zs.map V.str) = decide (z ∈ zs) := by
  unfold inV
  rw [List.any_map, Bool.eq_iff_iff, List.any_eq_true, decide_eq_true_iff]
  constructor
  · rintro ⟨y, hy, e⟩
    have e : (y == z) = true := e
    exact (beq_iff_eq.mp e) ▸ hy
  · intro h
    exact ⟨z, h, by show (z == z) = true; simp⟩
section
variable {P : Program} {w : World} {K : PySem.W.Frag} {mg : Str → Option Value} {base : Heap}
theorem scIsWood : FnScope ["web"] ["web"] (defScope sIsWood) := ⟨rfl, rfl, rfl, by decide +kernel, rfl, by decide +kernel, by decide +kernel⟩
theorem ok_iswood {f fP C : Addr} {fd fdP : FuncData} {k : Nat} (F : Fun K "is_wood" "is_wood" sIsWood f fd) (T : TxtW K mg C) (B : Blt mg) (GP : FnOk P w K mg base CX0 k fP fdP ["web"] (spPartsOf C)) (gP : mg "parts_of" = some (.ref fP)) (kP : PySem.W.keepIn K (.ref fP) = true) (bP : Binds K fdP ["web"] []) : FnOk P w K mg base CX0 (k + 1) f fd ["web"] (spIsWood C) := by
  refine F.ok scIsWood (fun vs H Q E h => ?_) (fun cdv A outer s H vs Q E hr h => ?_)
  · obtain ⟨x, ns, ts, rfl, _⟩ := h
    rfl
  · obtain ⟨x, ns, ts, rfl, wb, h64, q⟩ := h
    refine ⟨_, pss_one (ps_ret (pe_cmpR op_eq (pe_op op_add (pe_callB call_len_seq (by rfl) B.len PySem.boot_len (pa_cons (pe_fld (pv 0) rfl) pa_nil)) (pe_callB call_len_seq (by rfl) B.len PySem.boot_len (pa_cons (pe_call GP hr (by rfl) gP kP bP .nil pass0 (pa_cons (pv 0) pa_nil)) pa_nil))) (pe_callB call_len_seq (by rfl) B.len PySem.boot_len (pa_cons (pe_fld (pv 0) rfl) pa_nil)) (nomark _))), ?_⟩
    obtain ⟨⟨dx, pl, t, d, fa, h1, ⟨hp1, tq, hp2, hp3⟩, h3⟩, g⟩ := id wb
    refine ⟨.ref x, rfl, x, C, dx, _, _, rfl, h1, T.cl, T.nI, wfl_ties _ _ _ _, t, tq.map V.ref, rfl, .inr (sqt_of hp2), ?_⟩
    refine ⟨.ref x, rfl, x, ns, ts, rfl, wb, h64, fun p H1 ⟨qs, e1, e2⟩ s1 => ?_⟩
    refine ⟨p, qs.map V.ref, rfl, .inr (sqt_of e1), _, _, rfl, rfl, .ref x, rfl, x, C, dx, _, _, rfl, s1 _ _ h1, T.cl, T.nP, wfl_places _ _ _ _, pl, ns.map V.str, rfl, .inr (sqt_of (s1 _ _ hp1)), rfl, ?_⟩
    have e : decide (V.int (((tq.map V.ref).length : Nat) + ((qs.map V.ref).length : Nat)) = V.int ((ns.map V.str).length : Nat)) = decide (ts.length + (partsL ns ts).length = ns.length) := by
      rw [List.length_map, List.length_map, List.length_map, Paired.length hp3, Paired.length e2, decide_eq_decide]
      constructor
      · intro e
        injection e with e
        omega
      · intro e
        rw [← e]
        rfl
    rw [e]
    exact q H1 s1
theorem scLWood : FnScope ["own", "places", "ties", "lap", "near", "place", "tie"] ["own"] (defScope sLWood) := ⟨rfl, rfl, rfl, by decide +kernel, rfl, by decide +kernel, by decide +kernel⟩
theorem ok_lwood {f fN : Addr} {fd fdN : FuncData} {k : Nat} (F : Fun K "_law_is_wood" "_law_is_wood" sLWood f fd) (B : Blt mg) (GN : FnOk P w K mg base CX0 k fN fdN ["places", "ties"] spNear) (gN : mg "_law_near" = some (.ref fN)) (kN : PySem.W.keepIn K (.ref fN) = true) (bN : Binds K fdN ["places", "ties"] []) : FnOk P w K mg base CX0 (k + 1) f fd ["own"] spLWood := by
  refine F.ok scLWood (fun vs H Q E h => ?_) (fun cdv A outer s H vs Q E hr h => ?_)
  · obtain ⟨p, ns, ts, rfl, _⟩ := h
    rfl
  · obtain ⟨p, ns, ts, rfl, own, ⟨pl, tl, tq, e1, e2, e3, e4⟩, q⟩ := h
    have hu := hu_of hr
    have hu64 := hr.units
    refine ⟨_, pss_cons (ps_asg (pe_tup (pa_cons (pe_callTy call_list_of (by rfl) B.list PyProof.Rows.boot_list (pa_cons (pe_ix ix_tup (pv 0) pe_int (fun _ _ => rfl)) pa_nil)) (pa_cons (pe_callTy call_list_of (by rfl) B.list PyProof.Rows.boot_list (pa_cons (pe_ix ix_tup (pv 0) pe_int (fun _ _ => rfl)) pa_nil)) pa_nil)))
          (pg_tup rfl (pgs_cons (pg_name (i := 1) scLWood.nd rfl (.inr rfl)) (pgs_cons (pg_name (i := 2) scLWood.nd rfl (.inl rfl)) pgs_nil))))
      (pss_cons (ps_for PassesOwn.never rfl (pi_range1 (by rfl) B.range (pa_cons (pe_op op_add (pe_callB call_len_seq (by rfl) B.len PySem.boot_len (pa_cons (pe_ix ix_tup (pv 0) pe_int (fun _ _ => rfl)) pa_nil)) pe_int) pa_nil)) (pg_name (i := 3) scLWood.nd rfl (.inl rfl))
        (pss_cons (ps_set (i := 4) scLWood.nd rfl (.inr rfl) (pe_call GN hr (by rfl) gN kN bN .nil pass0 (pa_cons (pv 1) (pa_cons (pv 2) pa_nil))))
        (pss_cons (ps_set (i := 1) scLWood.nd rfl (.inr rfl) (pe_lc (own := [("place", 5)]) (g := gName 5) (tt := tTest (tOp (rI0 fun i j => V.bl (decide (j < i))) (tCB (rLenS K) (tCons (tDGet (tVar 4) (tVar 5)) tNil)) (tC (.int 1)))) rfl scLWood.nd (pi_list (pv 1))
            (blkOk_by (N := ["own", "places", "ties", "lap", "near", "place", "tie"]) (sc := defScope sLWood) (by decide +kernel)) (fun _ _ _ _ _ => pg_name (i := 5) scLWood.nd rfl (Or.inl rfl))
            (fun _ _ _ _ _ => pts_one (pt_cmpR op_gt (pe_callB call_len_seq (by rfl) B.len PySem.boot_len (pa_cons (pe_dget hu (pv 4) (pv 5) (fun _ _ => rfl)) pa_nil)) pe_int (nomark _))) (fun _ _ _ _ _ => pv 5)))
        (pss_one (ps_setLc (i := 2) (own := [("tie", 6)]) (g := gName 6) (tt := tAnd (tTest (tOp (rIn K false) (tOp (rIxT K) (tVar 6) (tC (.int 0))) (tVar 1))) (tTest (tOp (rIn K false) (tOp (rIxT K) (tVar 6) (tC (.int 1))) (tVar 1)))) rfl scLWood.nd rfl rfl (sw_true rfl rfl rfl (by decide +kernel)) (pi_list (pv 2))
            (blkOk_by (N := ["own", "places", "ties", "lap", "near", "place", "tie"]) (sc := defScope sLWood) (by decide +kernel)) (fun _ _ _ _ _ => pg_name (i := 6) scLWood.nd rfl (Or.inl rfl))
            (fun _ _ _ _ _ => pts_one (PW.pt (pw_and (pt_cmpR op_in_seq (pe_ix ix_tup (pv 6) pe_int (fun _ _ => rfl)) (pv 1) (by rfl)) (pw_and1 (pt_cmpR op_in_seq (pe_ix ix_tup (pv 6) pe_int (fun _ _ => rfl)) (pv 1) (by rfl)))))) (fun _ _ _ _ _ => pv 6))))))
      (pss_one (ps_ret (pe_cmpR (op_eqD hu64) (pv 1) (pe_lst pa_nil) (nomark _))))), ?_⟩
    have l200 := own.few
    have l1000 := own.tfew
    refine rs_t ?_
    refine ⟨.ref p, rfl, p, [.ref pl, .ref tl], 0, .ref pl, rfl, rfl, sqt_of e1, rfl, pl, _, rfl, .inl (sql_of e2), fun pp npp => ?_⟩
    refine ⟨.ref p, rfl, p, [.ref pl, .ref tl], 1, .ref tl, rfl, rfl, sqt_of ((same_upd npp) _ _ e1), rfl, tl, _, rfl, .inl (sql_of ((same_upd npp) _ _ e3)), fun tt ntt => ⟨by show 2 ≤ sizeLine; decide, fun p2 np2 => g2_of (sqt_of upd_same) ?_⟩⟩
    have s0 := ((same_upd (o := .lst (ns.map V.str)) npp).trans (same_upd (o := .lst (tq.map V.ref)) ntt)).trans (same_upd (o := .tup [.ref pp, .ref tt]) np2)
    have ett : (upd (upd (upd H pp (.lst (ns.map V.str))) tt (.lst (tq.map V.ref))) p2 (.tup [.ref pp, .ref tt])) tt = some (.lst (tq.map V.ref)) := (same_upd np2) _ _ upd_same
    have epp : (upd (upd (upd H pp (.lst (ns.map V.str))) tt (.lst (tq.map V.ref))) p2 (.tup [.ref pp, .ref tt])) pp = some (.lst (ns.map V.str)) := (same_upd np2) _ _ ((same_upd ntt) _ _ upd_same)
    generalize (upd (upd (upd H pp (.lst (ns.map V.str))) tt (.lst (tq.map V.ref))) p2 (.tup [.ref pp, .ref tt])) = H0 at s0 ett epp ⊢
    have eq0 : Paired (TieL H0) tq (esIn ts ns) := by
      rw [esIn_all own]
      exact paired_mono (fun q t e => s0 _ _ e) e4
    refine rs_rng 0 (((ns.map V.str).length : Nat) + 1 : Int).toNat (fun H' => H' = H0) (fun i σ' H' => ∃ pp tt o3 o4 qs, σ' = [some (.ref p), some (.ref pp), some (.ref tt), o3, o4, none, none] ∧ Same H0 H' ∧ H' pp = some (.lst ((PP ns ts i).map V.str)) ∧ H' tt = some (.lst (qs.map V.ref)) ∧ Paired (TieL H') qs (esIn ts (PP ns ts i)))
      (fun R hR => ⟨.ref p, rfl, p, [.ref pl, .ref tl], 0, .ref pl, rfl, rfl, sqt_of (s0 _ _ e1), rfl, pl, ns.map V.str, rfl, .inl (sql_of (s0 _ _ e2)), _, _, rfl, rfl, _, rfl, by rw [List.length_map]; omega, by rw [List.length_map]; omega, hR H0 rfl⟩) (fun H' e => by subst e; exact ⟨pp, tt, _, _, tq, rfl, Same.refl _, epp, ett, eq0⟩) ?_ ?_
    · rintro i σ' H' hi ⟨pp, tt, o3, o4, qs, rfl, s1, epp, ett, hq⟩
      refine r_gname ?_
      have ownI := own_PP own i
      refine rs_set ?_
      refine ⟨.ref pp, rfl, .ref tt, rfl, pp, tt, PP ns ts i, esIn ts (PP ns ts i), qs, rfl, ownI, epp, ett, hq, fun nd fa H2 s2 nl nd0 nf0 => ?_⟩
      refine rs_set ?_
      have epp2 := s2 _ _ epp
      refine ⟨.ref pp, rfl, pp, rfl, ⟨_, sql_of epp2⟩, fun D nD => lc_list (xs := (PP ns ts i).map V.str) (fun j H' => Same H2 H' ∧ H' D = some (.lst ((((PP ns ts i).take j).filter fun z => decide (1 < (nbr (esIn ts (PP ns ts i)) z).length)).map V.str))) ⟨same_upd nD, upd_same⟩ (fun j H' _ w => sql_of (w.1 _ _ epp2)) ?_ ?_⟩
      · rintro j v H3 hv ⟨s3, eD⟩
        obtain ⟨z, hz, rfl⟩ := map_get hv
        have hzn := List.mem_of_getElem? hz
        have hj := (List.getElem?_eq_some_iff.mp hz).1
        have hPl := PP_len (ns := ns) (ts := ts) i
        have nl3 := nl.keep s3
        refine ⟨rfl, .ref nd, rfl, .str z, rfl, nd, _, rfl, nl3.get hzn, fa z, _, rfl, .inl (sql_of (nl3.lst z hzn)), _, _, rfl, rfl, _, rfl, ?_⟩
        rw [List.length_map]
        by_cases hd : 1 < (nbr (esIn ts (PP ns ts i)) z).length
        · rw [decide_eq_true (show (1 : Int) < ((nbr (esIn ts (PP ns ts i)) z).length : Nat) by omega)]
          show if true = true then _ else _
          rw [if_pos rfl]
          refine ⟨.str z, rfl, _, eD, smallM (by rw [List.length_map]; exact Nat.le_trans (List.length_filter_le _ _) (by rw [List.length_take]; omega)), fun b o e => ?_, ?_⟩
          · rw [upd_ne (ne_of_none e nD)]; exact s3 _ _ e
          · rw [upd_same, filter_snoc hz, decide_eq_true hd, if_pos rfl, List.map_append]; rfl
        · rw [decide_eq_false (show ¬ (1 : Int) < ((nbr (esIn ts (PP ns ts i)) z).length : Nat) by omega)]
          show if false = true then _ else _
          rw [if_neg Bool.false_ne_true]
          refine ⟨s3, ?_⟩
          rw [eD, filter_snoc hz, decide_eq_false hd, if_neg Bool.false_ne_true, List.append_nil]
      · rintro H3 ⟨s3, eD⟩
        rw [List.length_map, List.take_length] at eD
        have eD : H3 D = some (.lst ((PP ns ts (i + 1)).map V.str)) := eD
        have hPl := PP_len (ns := ns) (ts := ts) (i + 1)
        have s13 := (s1.trans s2).trans s3
        have hq3 : Paired (TieL H3) qs (esIn ts (PP ns ts i)) := paired_mono (fun q t e => s3 _ _ (s2 _ _ e)) hq
        have ett3 := s3 _ _ (s2 _ _ ett)
        have hql : (esIn ts (PP ns ts i)).length ≤ 1000 := Nat.le_trans (List.length_filter_le _ _) l1000
        refine ⟨.ref tt, rfl, tt, rfl, ⟨_, sql_of ett3⟩, fun D2 nD2 => lc_list (xs := qs.map V.ref) (fun j H' => ∃ qs', Same H3 H' ∧ H' D2 = some (.lst (qs'.map V.ref)) ∧ Paired (TieL H3) qs' (((esIn ts (PP ns ts i)).take j).filter fun t => decide (t.1 ∈ PP ns ts (i + 1)) && decide (t.2 ∈ PP ns ts (i + 1)))) ⟨[], same_upd nD2, upd_same, .nil⟩ (fun j H' _ ⟨_, w, _⟩ => sql_of (w _ _ ett3)) ?_ ?_⟩
        · rintro j v H4 hv ⟨qs', s4, eD2, hp⟩
          obtain ⟨q', hq', rfl⟩ := map_get hv
          obtain ⟨t, ht, et⟩ := paired_get hq3 hq'
          have hqs' : qs'.length ≤ 1000 := by
            rw [Paired.length hp]
            exact Nat.le_trans (List.length_filter_le _ _) (by rw [List.length_take]; omega)
          have et4 := s4 _ _ et
          refine ⟨rfl, .ref q', rfl, q', _, 0, .str t.1, rfl, rfl, sqt_of et4, rfl, .ref D, rfl, D, _, rfl, .inl (sql_of (s4 _ _ eD)), rfl, ?_, _, rfl, ?_⟩
          · rw [List.all_eq_true]
            intro y hy
            obtain ⟨z, _, rfl⟩ := List.mem_map.mp hy
            rfl
          show if inV (.str t.1) ((PP ns ts (i + 1)).map V.str) = true then _ else _
          rw [inV_str]
          by_cases m1 : t.1 ∈ PP ns ts (i + 1)
          · rw [decide_eq_true m1, if_pos rfl]
            refine ⟨.ref q', rfl, q', _, 1, .str t.2, rfl, rfl, sqt_of et4, rfl, .ref D, rfl, D, _, rfl, .inl (sql_of (s4 _ _ eD)), rfl, ?_, _, rfl, ?_⟩
            · rw [List.all_eq_true]
              intro y hy
              obtain ⟨z, _, rfl⟩ := List.mem_map.mp hy
              rfl
            show if inV (.str t.2) ((PP ns ts (i + 1)).map V.str) = true then _ else _
            rw [inV_str]
            by_cases m2 : t.2 ∈ PP ns ts (i + 1)
            · rw [decide_eq_true m2, if_pos rfl]
              refine ⟨.ref q', rfl, _, eD2, smallM (by rw [List.length_map]; omega), qs' ++ [q'], fun b o e => ?_, by rw [upd_same, List.map_append]; rfl, ?_⟩
              · rw [upd_ne (ne_of_none e nD2)]; exact s4 _ _ e
              · rw [filter_snoc ht, decide_eq_true m1, decide_eq_true m2, if_pos (show (true && true) = true from rfl)]
                exact paired_snoc et hp
            · rw [decide_eq_false m2, if_neg Bool.false_ne_true]
              refine ⟨qs', s4, eD2, ?_⟩
              rw [filter_snoc ht, decide_eq_false m2, Bool.and_false, if_neg Bool.false_ne_true, List.append_nil]
              exact hp
          · rw [decide_eq_false m1, if_neg Bool.false_ne_true]
            refine ⟨qs', s4, eD2, ?_⟩
            rw [filter_snoc ht, decide_eq_false m1, Bool.false_and, if_neg Bool.false_ne_true, List.append_nil]
            exact hp
        · rintro H4 ⟨qs', s4, eD2, hp⟩
          rw [List.length_map, Paired.length hq3, List.take_length, esIn_sub (S := PP ns ts i) (S' := PP ns ts (i + 1)) (fun x hx => (List.mem_filter.mp (show x ∈ peel1 ts (PP ns ts i) from hx)).1)] at hp
          exact ⟨D, D2, _, _, qs', rfl, s13.trans s4, s4 _ _ eD, eD2, paired_mono (fun q t e => s4 _ _ e) hp⟩
    · rintro σ' H' ⟨pp, tt, o3, o4, qs, rfl, s1, epp, ett, hq⟩
      have en : (((ns.map V.str).length : Nat) + 1 : Int).toNat = ns.length + 1 := by rw [List.length_map]; omega
      rw [en] at epp
      refine ⟨.ref pp, rfl, Nat.zero_le _, fun l nl => ⟨.list ((PP ns ts (ns.length + 1)).map PyData.str), .list [], .lst (sql_of ((same_upd nl) _ _ epp)) (strs_dp _), .lst (sql_of upd_same) .nil, strs_lay own.nm (fun x hx => PP_in hx), by decide +kernel, ?_⟩⟩
      have eb : PyData.eqv (.list ((PP ns ts (ns.length + 1)).map PyData.str)) (.list []) = decide (PP ns ts (ns.length + 1) = []) := by
        rw [PyData.eqv]
        cases PP ns ts (ns.length + 1) with
        | nil => rfl
        | cons x xs => rfl
      rw [eb]
      exact q _ ((s0.trans s1).trans (same_upd nl))
end
end Hw

set_option Elab.async false
set_option linter.all false
set_option maxRecDepth 100000
set_option maxHeartbeats 2000000
namespace HwZ
open PySem
section
variable {prog : Program} {w : World} {A : Around} {R : Result → Shared → Prop} {E : Value → Shared → Prop} {s0 : Shared} {I S : Addr} {n : Nat} {J : Nat → Array Value → Heap → Prop} {Jf : Array Value → Heap → Prop}
abbrev lobj (acc : Array Value) (c : Nat) : Obj := { cls := .type "list", dict := none, data := .seq acc c, slots := #[] }
/-- an iterator that is drawn from while a list at S takes what it gives -/
structure DrawJ (prog : Program) (w : World) (A : Around) (s0 : Shared) (I S : Addr) (n : Nat) (J : Nat → Array Value → Heap → Prop) (Jf : Array Value → Heap → Prop) : Prop where
  item : ∀ i acc (c : Nat) (h : Heap) (Q : Option Value → Shared → Prop) (E : Value → Shared → Prop), i < n → J i acc h → h.get? S = some (lobj acc c) →
    (∀ v h', J (i + 1) (acc.push v) h' → h'.get? S = some (lobj acc c) → Q (some v) { s0 with heap := h' }) → wpAny (model prog w) A (pyNext (.ref I)) Q E { s0 with heap := h }
  done : ∀ acc (c : Nat) (h : Heap) (Q : Option Value → Shared → Prop) (E : Value → Shared → Prop), J n acc h → h.get? S = some (lobj acc c) →
    (∀ h', Jf acc h' → h'.get? S = some (lobj acc c) → Q none { s0 with heap := h' }) → wpAny (model prog w) A (pyNext (.ref I)) Q E { s0 with heap := h }
  frame : ∀ i acc (h h' : Heap), J i acc h → (∀ b o, b ≠ S → h.get? b = some o → h'.get? b = some o) → J i acc h'
  size : ∀ i acc h, J i acc h → acc.size = i
theorem loopJ (D : DrawJ prog w A.in1 s0 I S n J Jf) (hn : n ≤ sizeLine) (res : Value) : ∀ (k i : Nat) (h : Heap) (acc : Array Value) (c : Nat), n - i = k → i ≤ n → J i acc h → h.get? S = some (lobj acc c) →
    (∀ h' acc' c', Jf acc' h' → h'.get? S = some (lobj acc' c') → R (.ok (.ret res)) { s0 with heap := h' }) → codeAny (model prog w) A (.builtin "list.extend.loop" ⟨[.ref S, .ref I, res], []⟩) R { s0 with heap := h } := by
  intro k
  induction k with
  | zero =>
    intro i h acc c hk hi hj hS fin
    obtain rfl : i = n := by omega
    refine codeAny_builtin F.entry_extend_loop ?_
    rw [Around.under_plainId F.plain_extend_loop _]
    refine wpAny_bind (m := pyNext (.ref I)) (D.done acc c h _ _ hj hS fun h' hj' hS' => ?_)
    exact wpAny_pure (fin h' acc c hj' hS')
  | succ k ih =>
    intro i h acc c hk hi hj hS fin
    have lt : i < n := by omega
    refine codeAny_builtin F.entry_extend_loop ?_
    rw [Around.under_plainId F.plain_extend_loop _]
    refine wpAny_bind (m := pyNext (.ref I)) (D.item i acc c h _ _ lt hj hS fun v h' hj' hS' => ?_)
    have sz := D.size _ _ _ hj
    show wpAny _ A.in1 (updateSeq S (·.push v) >>= _) _ _ { s0 with heap := h' }
    have up := Heap.get?_update_self (Obj.mapSeq (·.push v)) hS' rfl
    refine wpAny_bind (wpAny_updateSeq (s := { s0 with heap := h' }) hS' rfl (wpAny_pure ⟨plainId_quiet F.plain_extend_loop _, ih (i + 1) (h'.update S (Obj.mapSeq (·.push v))) (acc.push v) _ (by omega) lt
      (D.frame _ _ h' _ hj' fun b o hb e => (Heap.get?_update_other _ _ (Ne.symm hb)).trans e) up fin⟩) (by rw [sz]; omega) (by show (acc.push v).size ≤ sizeLine + 1; rw [Array.size_push, sz]; omega))
theorem extendJ (D : DrawJ prog w A.in1 s0 I S n J Jf) (hn : n ≤ sizeLine) (hSI : S ≠ I) (hl : typeLookup (.type "zip") "__len__" = pure none) (hh : typeLookup (.type "zip") "__length_hint__" = pure none) (res : Value) (c0 : Nat) {h : Heap}
    (hT : ∀ h, J 0 #[] h → ({ s0 with heap := h } : Shared).TypeIs (.ref I) "zip") (self : ∀ h (Q : Value → Shared → Prop) (E : Value → Shared → Prop), J 0 #[] h → Q (.ref I) { s0 with heap := h } → wpAny (model prog w) A.in1 (pyIter (.ref I)) Q E { s0 with heap := h })
    (hj : J 0 #[] h) (hS : h.get? S = some (lobj #[] c0)) (fin : ∀ h' acc' c', Jf acc' h' → h'.get? S = some (lobj acc' c') → R (.ok (.ret res)) { s0 with heap := h' }) :
    wpAny (model prog w) A.in1 (Builtin.List.listExtendWith (.ref S) (.ref I) res) (fun fl s' => match fl with | .done f => R (.ok f) s' | .again c' => c'.quiet = true ∧ codeAny (model prog w) A c' R s') (fun e s' => R (.error e) s') { s0 with heap := h } := by
  unfold Builtin.List.listExtendWith
  refine wpAny_bind (wpAny_typeOf (hT h hj) ?_)
  have b1 : Builtin.List.listSameRef (.ref S) (.ref I) = false := by simp [Builtin.List.listSameRef, hSI]
  have b2 : (Value.type "zip" == Value.type "list") = false := by decide
  have b3 : (Value.type "zip" == Value.type "tuple") = false := by decide
  simp only [b1, b2, b3, Bool.or_false, Bool.false_eq_true, if_false]
  refine wpAny_bind (self h _ _ hj ?_)
  refine wpAny_bind (wpAny_holding ?_)
  unfold Builtin.List.listLengthHint
  refine wpAny_bind (wpAny_specialOf (hT h hj) hl ?_)
  show wpAny _ A.in1 (specialOf (Value.ref I) (Str.ofString "__length_hint__") >>= _) _ _ { s0 with heap := h }
  refine wpAny_bind (wpAny_specialOf (hT h hj) hh ?_)
  refine wpAny_pure ?_
  show wpAny _ A.in1 (rule "list.extend.makes-room" >>= fun _ => Builtin.List.listTouch (.ref S) >>= fun _ => again (.builtin "list.extend.loop" ⟨[.ref S, .ref I, res], []⟩)) _ _ { s0 with heap := h }
  refine wpAny_bind (wpAny_rule (wpAny_bind ?_))
  show wpAny _ A.in1 (updateSeq S (·.push .none) >>= fun _ => updateSeq S (·.pop)) _ _ { s0 with heap := h }
  refine wpAny_bind (wpAny_updateSeq (s := { s0 with heap := h }) hS rfl ?_)
  have p1 := Heap.get?_update_self (Obj.mapSeq (·.push Value.none)) hS rfl
  refine wpAny_updateSeq (hz := by seq_fits) p1 rfl ?_
  have p2 := Heap.get?_update_self (Obj.mapSeq (·.pop)) p1 rfl
  exact wpAny_pure ⟨plainId_quiet F.plain_extend_loop _, loopJ D hn res n 0 _ #[] _ rfl (Nat.zero_le _)
    (D.frame 0 #[] h _ hj fun b o hb e => (Heap.get?_update_other _ _ (Ne.symm hb)).trans ((Heap.get?_update_other _ _ (Ne.symm hb)).trans e)) p2 fin⟩
/-- list(I) -/
theorem call_listJ {Q : Value → Shared → Prop} {h0 : Heap} (hs : s0.heap = h0) (hS : S = h0.objs.size) (D : DrawJ prog w A.in1.in1 s0 I S n J Jf) (hn : n ≤ sizeLine) (hSI : S ≠ I) (hl : typeLookup (.type "zip") "__len__" = pure none) (hh : typeLookup (.type "zip") "__length_hint__" = pure none)
    (hT : ∀ h, J 0 #[] h → ({ s0 with heap := h } : Shared).TypeIs (.ref I) "zip") (self : ∀ h (Q : Value → Shared → Prop) (E : Value → Shared → Prop), J 0 #[] h → Q (.ref I) { s0 with heap := h } → wpAny (model prog w) A.in1.in1 (pyIter (.ref I)) Q E { s0 with heap := h })
    (hj : J 0 #[] h0) (fin : ∀ h' acc' c', Jf acc' h' → h'.get? S = some (lobj acc' c') → Q (.ref S) { s0 with heap := h' }) : wpAny (model prog w) A (call (.type "list") [.ref I]) Q E s0 := by
  subst hs hS
  refine callType_codes (Q₁ := fun obj s₁ => obj = .ref s0.heap.objs.size ∧ s₁ = { s0 with heap := s0.heap.push { cls := .type "list", data := .seq #[] } }) F.called_list (F.typeCall_list_1 _) F.entry_list_init
    (code_list_new _ ⟨rfl, rfl⟩) fun made s₁ both => ?_
  obtain ⟨rfl, rfl⟩ := both
  have g0 : (s0.heap.push (lobj #[] 0)).get? s0.heap.objs.size = some (lobj #[] 0) := Heap.get?_push_size _ rfl
  have j1 : J 0 #[] (s0.heap.push (lobj #[] 0)) := D.frame 0 #[] _ _ hj fun b o _ e => Heap.get?_push_of_some _ e
  refine ⟨⟨_, g0, rfl⟩, F.args_list_init_2 _ _, ?_⟩
  show wpAny _ A.in1.in1 (do let old ← Builtin.List.listItems (.ref s0.heap.objs.size); Builtin.List.listUpdate (.ref s0.heap.objs.size) (fun _ => #[]); letGo old.toList.reverse; Builtin.List.listExtendWith (.ref s0.heap.objs.size) (.ref I) .none) _ _ _
  refine wpAny_bind ?_
  unfold Builtin.List.listItems
  refine wpAny_bind (wpAny_seqItems g0 rfl (wpAny_pure ?_))
  show wpAny _ A.in1.in1 (updateSeq s0.heap.objs.size (fun _ => #[]) >>= fun _ => letGo (#[] : Array Value).toList.reverse >>= fun _ => Builtin.List.listExtendWith (.ref s0.heap.objs.size) (.ref I) .none) _ _ _
  refine wpAny_bind (wpAny_updateSeq g0 rfl ?_)
  have g1 := Heap.get?_update_self (Obj.mapSeq (fun _ => (#[] : Array Value))) g0 rfl
  refine wpAny_bind (wpAny_letGo ?_)
  exact extendJ D hn hSI hl hh .none _ hT self (D.frame 0 #[] _ _ j1 fun b o hb e => (Heap.get?_update_other _ _ (Ne.symm hb)).trans e) g1 fun h' acc' c' a b => ⟨rfl, fin h' acc' c' a b⟩
end
section
variable {prog : Program} {w : World} {A : Around} {s1 : Shared} {a b : Addr} {xs ys : Array Value}
theorem nea {c d : Nat} (h : c < d ∨ d < c) : c ≠ d := by
  rintro rfl
  rcases h with h | h <;> exact Nat.lt_irrefl _ h
/-- the pairs that were given out -/
structure PairsJ (k0 : Heap) (xs ys : Array Value) (acc : Array Value) (h : Heap) : Prop where
  keep : ∀ (c : Addr) (o : Obj), k0.get? c = some o → h.get? c = some o
  ts : ∃ Ts : List Addr, acc = (Ts.map Value.ref).toArray ∧ Ts.Pairwise (· < ·) ∧ (∀ T ∈ Ts, k0.objs.size + 5 < T) ∧ ∀ (j : Nat) (T : Addr), Ts[j]? = some T → ∃ x y : Value, xs[j]? = some x ∧ ys[j]? = some y ∧ IsPair h T x y
structure ZipJ (k0 : Heap) (a b : Addr) (xs ys : Array Value) (i : Nat) (acc : Array Value) (h : Heap) : Prop where
  z0 : i = 0 → IsZip h (k0.objs.size + 4) (k0.objs.size + 2) (k0.objs.size + 3) .none
  z1 : 0 < i → ∃ T oT f, IsZipHeld h (k0.objs.size + 4) (k0.objs.size + 2) (k0.objs.size + 3) T f ∧ h.get? T = some oT ∧ k0.objs.size + 5 < T
  ti : IsPair h (k0.objs.size + 2) (.ref k0.objs.size) (.ref (k0.objs.size + 1))
  to : ∃ x y, IsPair h (k0.objs.size + 3) x y
  i1 : h.IsListIter k0.objs.size a i
  i2 : h.IsListIter (k0.objs.size + 1) b i
  l1 : h.IsList a xs
  l2 : h.IsList b ys
  giv : PairsJ k0 xs ys acc h
  sz : acc.size = i
theorem PairsJ.mono {k0 h h' : Heap} {acc : Array Value} (g : PairsJ k0 xs ys acc h) (k : ∀ c o, c < k0.objs.size ∨ k0.objs.size + 5 < c → h.get? c = some o → h'.get? c = some o) : PairsJ k0 xs ys acc h' := by
  obtain ⟨g1, Ts, e, p, lt, cont⟩ := g
  refine ⟨fun c o q => k c o (.inl (Heap.lt_size q)) (g1 c o q), Ts, e, p, lt, fun j T hT => ?_⟩
  obtain ⟨x, y, hx, hy, hp⟩ := cont j T hT
  exact ⟨x, y, hx, hy, k T _ (.inr (lt T (List.mem_of_getElem? hT))) hp⟩
theorem PairsJ.push {k0 h : Heap} {acc : Array Value} {T : Addr} {x y : Value} {i : Nat} (g : PairsJ k0 xs ys acc h) (hi : acc.size = i) (hx : xs[i]? = some x) (hy : ys[i]? = some y) (hp : IsPair h T x y) (hT : k0.objs.size + 5 < T) (hlt : ∀ T' : Addr, k0.objs.size + 5 < T' → (∃ j : Nat, acc[j]? = some (Value.ref T')) → T' < T) : PairsJ k0 xs ys (acc.push (.ref T)) h := by
  obtain ⟨g1, Ts, e, p, lt, cont⟩ := g
  have hl : Ts.length = i := by rw [← hi, e]; simp
  refine ⟨g1, Ts ++ [T], by rw [e]; simp, ?_, fun T' hT' => ?_, fun j T' hj => ?_⟩
  · rw [List.pairwise_append]
    refine ⟨p, List.pairwise_singleton _ _, fun u hu v hv => ?_⟩
    rw [List.mem_singleton.mp hv]
    obtain ⟨j, hj, ej⟩ := List.mem_iff_getElem.mp hu
    exact hlt u (lt u hu) ⟨j, by rw [e]; simp [hj, ej]⟩
  · rcases List.mem_append.mp hT' with q | q
    · exact lt T' q
    · rw [List.mem_singleton.mp q]; exact hT
  · by_cases hj' : j < Ts.length
    · rw [List.getElem?_append_left hj'] at hj
      exact cont j T' hj
    · rw [List.getElem?_append_right (by omega)] at hj
      have : j - Ts.length = 0 := by
        have := (List.getElem?_eq_some_iff.mp hj).1
        simp at this; omega
      rw [this] at hj
      have eT : T = T' := by simpa using hj
      have ej : j = i := by omega
      subst eT ej
      exact ⟨x, y, hx, hy, hp⟩
theorem zip_draw (hh : A.handled = none) (la : a < s1.heap.objs.size) (lb : b < s1.heap.objs.size) : DrawJ prog w A s1 (s1.heap.objs.size + 4) (s1.heap.objs.size + 5) (min xs.size ys.size) (ZipJ s1.heap a b xs ys) (PairsJ s1.heap xs ys) where
  item := fun i acc c h Q E hi J hS fin => by
    have D : ZipApart (s1.heap.objs.size + 4) (s1.heap.objs.size + 2) (s1.heap.objs.size + 3) s1.heap.objs.size (s1.heap.objs.size + 1) a b := PySem.W.ktu_apart _ a b la lb
    have hix : i < xs.size := Nat.lt_of_lt_of_le hi (Nat.min_le_left ..)
    have hiy : i < ys.size := Nat.lt_of_lt_of_le hi (Nat.min_le_right ..)
    have gx := Array.getElem?_eq_getElem hix
    have gy := Array.getElem?_eq_getElem hiy
    have hSz : s1.heap.objs.size + 5 < h.objs.size := Heap.lt_size hS
    obtain ⟨x0, y0, hTO⟩ := J.to
    have older : ∀ T' : Addr, s1.heap.objs.size + 5 < T' → (∃ j : Nat, acc[j]? = some (Value.ref T')) → T' < h.objs.size := by
      rintro T' _ ⟨j, hj⟩
      obtain ⟨Ts, e, _, _, cont⟩ := J.giv.ts
      rw [e] at hj
      obtain ⟨x, y, _, _, hp⟩ := cont j T' (by simpa using hj)
      exact Heap.lt_size hp
    by_cases h0 : i = 0
    · refine wpAny_pyNext_zip_item (s := { s1 with heap := h }) D (J.z0 h0) J.ti hTO J.i1 J.i2 J.l1 J.l2 gx gy fun h' a1 a2 a3 a4 a5 a6 hk => ?_
      have hk' : ∀ c o, c < s1.heap.objs.size ∨ s1.heap.objs.size + 5 ≤ c → h.get? c = some o → h'.get? c = some o := fun c o hc e => hk c o (nea (by omega)) (nea (by omega)) (nea (by omega)) (nea (by omega)) e
      refine fin _ h' ⟨fun z => by omega, fun _ => ⟨h.objs.size, _, false, a1, a5, by omega⟩, hk _ _ (nea (by omega)) (nea (by omega)) (nea (by omega)) (nea (by omega)) J.ti, ⟨_, _, a2⟩, a3, a4, J.l1.at fun o e => hk' _ o (.inl la) e, J.l2.at fun o e => hk' _ o (.inl lb) e, ?_, by rw [Array.size_push, J.sz]⟩ (hk' _ _ (.inr (Nat.le_refl _)) hS)
      exact (J.giv.mono fun c o hc e => hk' c o (by omega) e).push J.sz gx gy a5 (by show _ < h.objs.size; omega) older
    · obtain ⟨T, oT, f, zh, hT, lT⟩ := J.z1 (by omega)
      refine wpAny_pyNext_zip_item_held (s := { s1 with heap := h }) D zh hT J.ti J.i1 J.i2 J.l1 J.l2 gx gy fun h' b1 b3 b4 b5 b6 hk => ?_
      have hk' : ∀ c o, c < s1.heap.objs.size ∨ s1.heap.objs.size + 5 ≤ c → h.get? c = some o → h'.get? c = some o := fun c o hc e => hk c o (nea (by omega)) (nea (by omega)) (nea (by omega)) e
      refine fin _ h' ⟨fun z => by omega, fun _ => ⟨T, _, true, b1, hk' _ _ (.inr (by omega)) hT, lT⟩, hk _ _ (nea (by omega)) (nea (by omega)) (nea (by omega)) J.ti, ⟨_, _, hk _ _ (nea (by omega)) (nea (by omega)) (nea (by omega)) hTO⟩, b3, b4, J.l1.at fun o e => hk' _ o (.inl la) e, J.l2.at fun o e => hk' _ o (.inl lb) e, ?_, by rw [Array.size_push, J.sz]⟩ (hk' _ _ (.inr (Nat.le_refl _)) hS)
      exact (J.giv.mono fun c o hc e => hk' c o (by omega) e).push J.sz gx gy b5 (by show _ < h.objs.size; omega) older
  done := fun acc c h Q E J hS fin => by
    have D : ZipApart (s1.heap.objs.size + 4) (s1.heap.objs.size + 2) (s1.heap.objs.size + 3) s1.heap.objs.size (s1.heap.objs.size + 1) a b := PySem.W.ktu_apart _ a b la lb
    obtain ⟨x0, y0, hTO⟩ := J.to
    have hend : xs[min xs.size ys.size]? = none ∨ ys[min xs.size ys.size]? = none := by
      rcases Nat.le_total xs.size ys.size with q | q
      · rw [Nat.min_eq_left q]; exact .inl (Array.getElem?_eq_none (Nat.le_refl _))
      · rw [Nat.min_eq_right q]; exact .inr (Array.getElem?_eq_none (Nat.le_refl _))
    by_cases h0 : min xs.size ys.size = 0
    · refine wpAny_pyNext_zip_end (s := { s1 with heap := h }) hh D (J.z0 h0) J.ti hTO J.i1 J.i2 J.l1 J.l2 hend fun h' hk => ?_
      exact fin h' (J.giv.mono fun c o hc e => hk c o (nea (by omega)) (nea (by omega)) (nea (by omega)) (nea (by omega)) e) (hk _ _ (nea (by omega)) (nea (by omega)) (nea (by omega)) (nea (by omega)) hS)
    · obtain ⟨T, oT, f, zh, hT, lT⟩ := J.z1 (by omega)
      refine wpAny_pyNext_zip_end_held (s := { s1 with heap := h }) hh D zh hT J.ti J.i1 J.i2 J.l1 J.l2 hend fun h' hk => ?_
      exact fin h' (J.giv.mono fun c o hc e => hk c o (nea (by omega)) (nea (by omega)) (nea (by omega)) e) (hk _ _ (nea (by omega)) (nea (by omega)) (nea (by omega)) hS)
  frame := fun i acc h h' J k => by
    obtain ⟨x0, y0, hTO⟩ := J.to
    refine ⟨fun e => k _ _ (nea (by omega)) (J.z0 e), fun e => ?_, k _ _ (nea (by omega)) J.ti, ⟨_, _, k _ _ (nea (by omega)) hTO⟩, J.i1.at fun o e => k _ o (nea (by omega)) e, J.i2.at fun o e => k _ o (nea (by omega)) e, J.l1.at fun o e => k _ o (Nat.ne_of_lt (Nat.lt_of_lt_of_le la (Nat.le_add_right _ _))) e, J.l2.at fun o e => k _ o (Nat.ne_of_lt (Nat.lt_of_lt_of_le lb (Nat.le_add_right _ _))) e, J.giv.mono fun c o hc e => k c o (nea (by omega)) e, J.sz⟩
    obtain ⟨T, oT, f, zh, hT, lT⟩ := J.z1 e
    exact ⟨T, oT, f, k _ _ (nea (by omega)) zh, k _ _ (nea (by omega)) hT, lT⟩
  size := fun i acc h J => J.sz
end
end HwZ

set_option Elab.async false
set_option linter.all false
set_option maxRecDepth 100000
set_option maxHeartbeats 2000000
namespace HwZ
open PySem PyProof.Rows L2
section
variable {X : Cx} {pins : List (Addr × Obj)} {σ : L2.St} {H : Hp} {s : Shared}
abbrev T2 := Addr × V × V
def layH (H : Hp) (L : List T2) : Hp := L.foldl (fun H t => upd H t.1 (.tup [t.2.1, t.2.2])) H
theorem layH_snoc (H : Hp) (L : List T2) (t : T2) : layH H (L ++ [t]) = upd (layH H L) t.1 (.tup [t.2.1, t.2.2]) := by
  unfold layH
  rw [List.foldl_append]; rfl
theorem layH_out : ∀ {L : List T2} {H : Hp} {a : Addr}, a ∉ L.map (·.1) → layH H L a = H a
  | [], _, _, _ => rfl
  | t :: L, H, a, h => by
    rw [List.map_cons, List.mem_cons, not_or] at h
    show layH (upd H t.1 _) L a = H a
    rw [layH_out h.2, upd_ne h.1]
theorem layH_in : ∀ {L : List T2} {H : Hp} {t : T2}, (L.map (·.1)).Nodup → t ∈ L → layH H L t.1 = some (.tup [t.2.1, t.2.2])
  | u :: L, H, t, hn, ht => by
    rw [List.map_cons] at hn
    obtain ⟨h1, h2⟩ := List.nodup_cons.mp hn
    show layH (upd H u.1 _) L t.1 = _
    rcases List.mem_cons.mp ht with rfl | ht
    · rw [layH_out h1, upd_same]
    · exact layH_in h2 ht
theorem lay_tups (I : Inv X pins σ H s) : ∀ (n : Nat) (L : List T2) (h : Heap), L.length = n → (∀ b o, s.heap.get? b = some o → h.get? b = some o) → (L.map (·.1)).Nodup →
    (∀ t ∈ L, s.heap.get? t.1 = none ∧ H t.1 = none ∧ ∃ u v, IsPair h t.1 u v ∧ RelV t.2.1 u ∧ RelV t.2.2 v) → Inv X pins σ (layH H L) { s with heap := h } := by
  intro n
  induction n with
  | zero =>
    intro L h hl k _ _
    rw [List.length_eq_zero_iff.mp hl]
    exact I.kept (t' := s.toks) k
  | succ n ih =>
    intro L h hl k hn hL
    rcases List.eq_nil_or_concat L with e | ⟨L', t, e⟩
    · rw [e] at hl; cases hl
    · rw [List.concat_eq_append] at e
      subst e
      have hl' : L'.length = n := by
        rw [List.length_append] at hl
        exact Nat.succ.inj hl
      rw [List.map_append, List.nodup_append] at hn
      obtain ⟨n1, _, n3⟩ := hn
      have nt : t.1 ∉ L'.map (·.1) := fun m => n3 _ m t.1 (by simp) rfl
      obtain ⟨t1, t2, u, v, hp, r1, r2⟩ := hL t (List.mem_append_right _ List.mem_cons_self)
      obtain ⟨G, g1, g2⟩ := restrict h fun b => decide (b ≠ t.1)
      have up : ∀ b o, b ≠ t.1 → h.get? b = some o → G.get? b = some o := fun b o hb e => by rw [g1 b (decide_eq_true hb)]; exact e
      have gt : G.get? t.1 = none := g2 _ (decide_eq_false fun z => z rfl)
      have dn : ∀ b o, G.get? b = some o → h.get? b = some o := fun b o e => by
        by_cases hb : b = t.1
        · rw [hb, gt] at e; cases e
        · rw [← g1 b (decide_eq_true hb)]; exact e
      have I1 := ih L' G hl' (fun b o e => up b o (fun z => by rw [z, t1] at e; cases e) (k b o e)) n1 fun x hx => by
        obtain ⟨a1, a2, u', v', a3, a4, a5⟩ := hL x (List.mem_append_left _ hx)
        exact ⟨a1, a2, u', v', up _ _ (fun z => nt (by rw [← z]; exact List.mem_map.mpr ⟨x, hx, rfl⟩)) a3, a4, a5⟩
      rw [layH_snoc]
      exact Inv.laidN (s := { s with heap := G }) (t' := s.toks) I1 dn gt (by rw [layH_out nt]; exact t2) ⟨by show 2 ≤ sizeLine; decide, [u, v], .cons r1 (.cons r2 .nil), ⟨_, hp, rfl, _, rfl⟩⟩
end
def rListZip (K : PySem.W.Frag) : List V → Hp → VK → Prop := fun vs H Q => ∃ (a b : Addr) (xs ys : List V), vs = [.ref a, .ref b] ∧ SqL K H a xs ∧ SqL K H b ys ∧
  ∀ (l : Addr) (Ts : List Addr) (H' : Hp), Ts.length = min xs.length ys.length → Same H H' → H l = none → H' l = some (.lst (Ts.map V.ref)) → Ts.Nodup →
    (∀ (j : Nat) (T : Addr), Ts[j]? = some T → H T = none ∧ ∃ x y, xs[j]? = some x ∧ ys[j]? = some y ∧ H' T = some (.tup [x, y])) → Q (.ref l) H'
theorem valsRefs : ∀ Ts : List Addr, Vals (Ts.map V.ref) (Ts.map Value.ref)
  | [] => .nil
  | _ :: Ts => .cons rfl (valsRefs Ts)
theorem zip_noLen : typeLookup (.type "zip") "__len__" = pure none := by rw [typeLookup_type, builtinLookup_eq_fast]; kernel_rfl
theorem zip_noHint : typeLookup (.type "zip") "__length_hint__" = pure none := by rw [typeLookup_type, builtinLookup_eq_fast]; kernel_rfl
section
variable {X : Cx}
/-- list(zip(x, y)) of two lists -/
theorem pe_listZip {e e2 : Expr} {ta : TA} {p p2 pos pos2 : Pos} (hc : X.calm = true) (hgl : Gl X "list") (hml : X.mg "list" = none) (hgz : Gl X "zip") (hmz : X.mg "zip" = none) (ha : PA X [e, e2] ta)
    (he : starEach [Expr.Call (.Name "zip" p2) [e, e2] [] pos2] X.env = (false, eval (Expr.Call (.Name "zip" p2) [e, e2] [] pos2) X.env) :: starEach [] X.env := by rfl) (hpl : (backTo pos (starEach [] X.env)).any (·.1) = false := by rfl)
    (hs : starEach [e, e2] X.env = (false, eval e X.env) :: starEach [e2] X.env := by rfl) (hpl2 : (backTo pos2 (starEach [e2] X.env)).any (·.1) = false := by rfl) :
    PE X (.Call (.Name "list" p) [.Call (.Name "zip" p2) [e, e2] [] pos2] [] pos) (fun σ H Q => ta σ H fun vs H1 => rListZip X.K vs H1 Q) := by
  refine ⟨fun pins s σ H Q I h => ?_⟩
  refine Call_ (ld_blt I hgl hml PyProof.Rows.boot_list (PyProof.Rows.callWith_type1 ?_ he hpl))
  rw [he]
  show wpAny _ _ (spliced ((false, eval (Expr.Call (.Name "zip" p2) [e, e2] [] pos2) X.env) :: backTo pos (starEach [] X.env))) _ _ s
  refine Calls.spliced_cons ?_
  refine Call_ (ld_blt I hgz hmz PyProof.Rows.boot_zip (PyProof.Rows.callWith_type1 (thn (ha.run pos2 pins s σ H _ I h) fun us s1 ⟨vs, H1, I1, r1, q1⟩ => ?_) hs hpl2))
  obtain ⟨a, b, xs, ys, ex, hqx, hqy, q1⟩ := q1
  subst ex
  obtain ⟨va, vb, rfl, ra, rb⟩ := vals2 r1
  cases ra
  cases rb
  obtain ⟨its, rv, p1, z1⟩ := I1.list hqx
  obtain ⟨its2, rv2, p2', z2⟩ := I1.list hqy
  refine call_zip_2 p1.isList p2'.isList fun h' hz hTI hTO h1 h2 hsz hk => ?_
  refine Calls.spliced_nil ?_
  have l1 := rv.length
  have l2 := rv2.length
  have D := zip_draw (prog := X.prog) (w := X.w) (A := X.A.in1.in1) (s1 := s1) (a := a) (b := b) (xs := its.toArray) (ys := its2.toArray) (I.ok.hd hc) p1.lt p2'.lt
  have hn : min its.toArray.size its2.toArray.size ≤ sizeLine := Nat.le_trans (Nat.min_le_left ..) (by rw [List.size_toArray]; omega)
  have J0 : ZipJ s1.heap a b its.toArray its2.toArray 0 #[] h' := ⟨fun _ => hz, fun z => absurd z (Nat.lt_irrefl 0), hTI, ⟨_, _, hTO⟩, h1, h2, p1.isList.at fun o e => hk _ o e, p2'.isList.at fun o e => hk _ o e, ⟨hk, [], rfl, List.Pairwise.nil, (fun _ z => nomatch z), fun j T z => by simp at z⟩, rfl⟩
  have D' : DrawJ X.prog X.w X.A.in1.in1 { s1 with heap := h' } (s1.heap.objs.size + 4) (s1.heap.objs.size + 5) (min its.toArray.size its2.toArray.size) (ZipJ s1.heap a b its.toArray its2.toArray) (fun acc h => PairsJ s1.heap its.toArray its2.toArray acc h ∧ acc.size = min its.toArray.size its2.toArray.size) :=
    ⟨D.item, fun acc c h Q E hj hS q => D.done acc c h Q E hj hS fun h' g e => q h' ⟨g, D.size _ _ _ hj⟩ e, D.frame, D.size⟩
  refine call_listJ (s0 := { s1 with heap := h' }) (h0 := h') (S := s1.heap.objs.size + 5) rfl hsz.symm D' hn (nea (by omega)) zip_noLen zip_noHint (fun h J => ⟨_, J.z0 rfl, rfl⟩) (fun h Q E J q => wpAny_pyIter_zip (J.z0 rfl) q) J0 fun h'' acc' c' ⟨g, gn⟩ eS => ?_
  obtain ⟨gk, Ts, eT, pw, lt, cont⟩ := g
  subst eT
  rw [List.size_toArray, List.size_toArray, List.size_toArray, List.length_map] at gn
  have hT : Ts.length = (xs.zip ys).length := by rw [List.length_zip, l1, l2]; exact gn
  have nd : Ts.Nodup := pw.imp fun {a b} h => Nat.ne_of_lt h
  have mem : ∀ t ∈ Ts.zip (xs.zip ys), ∃ j, Ts[j]? = some t.1 ∧ xs[j]? = some t.2.1 ∧ ys[j]? = some t.2.2 := fun t ht => by
    obtain ⟨j, hj⟩ := List.mem_iff_getElem?.mp ht
    obtain ⟨a1, a2⟩ := List.getElem?_zip_eq_some.mp hj
    obtain ⟨a3, a4⟩ := List.getElem?_zip_eq_some.mp a2
    exact ⟨j, a1, a3, a4⟩
  have fr : ∀ T : Addr, s1.heap.objs.size ≤ T → s1.heap.get? T = none ∧ H1 T = none := fun T h => ⟨by
    cases e : s1.heap.get? T with
    | none => rfl
    | some o => exact absurd (Heap.lt_size e) (Nat.not_lt.mpr h), I1.hok.fresh h⟩
  have TS : ∀ T ∈ Ts, T ≠ s1.heap.objs.size + 5 ∧ s1.heap.objs.size ≤ T := fun T h => by
    have := lt T h
    exact ⟨nea (.inr this), Nat.le_trans (Nat.le_add_right _ 5) (Nat.le_of_lt this)⟩
  obtain ⟨G, g1, g2⟩ := restrict h'' fun b => decide (b ≠ s1.heap.objs.size + 5)
  have up : ∀ b o, b ≠ s1.heap.objs.size + 5 → h''.get? b = some o → G.get? b = some o := fun b o hb e => by rw [g1 b (decide_eq_true hb)]; exact e
  have gt : G.get? (s1.heap.objs.size + 5) = none := g2 _ (decide_eq_false fun z => z rfl)
  have dn : ∀ b o, G.get? b = some o → h''.get? b = some o := fun b o e => by
    by_cases hb : b = s1.heap.objs.size + 5
    · rw [hb, gt] at e; cases e
    · rw [← g1 b (decide_eq_true hb)]; exact e
  have fS := fr (s1.heap.objs.size + 5) (Nat.le_add_right _ 5)
  have mp : (Ts.zip (xs.zip ys)).map (·.1) = Ts := List.map_fst_zip (Nat.le_of_eq hT)
  have I2 := lay_tups I1 _ (Ts.zip (xs.zip ys)) G rfl (fun b o e => up b o (fun z => by rw [z, fS.1] at e; cases e) (gk b o e)) (by rw [mp]; exact nd) fun t ht => by
    obtain ⟨j, b1, b2, b3⟩ := mem t ht
    have tm := List.mem_of_getElem? b1
    obtain ⟨x, y, c1, c2, c3⟩ := cont j _ b1
    obtain ⟨u, d1, d2⟩ := L2.paired_get rv b2
    obtain ⟨v, e1, e2⟩ := L2.paired_get rv2 b3
    rw [List.getElem?_toArray] at c1 c2
    rw [c1] at d1
    rw [c2] at e1
    cases d1
    cases e1
    have f := fr _ (TS _ tm).2
    exact ⟨f.1, f.2, x, y, up _ _ (TS _ tm).1 c3, d2, e2⟩
  have nS : s1.heap.objs.size + 5 ∉ (Ts.zip (xs.zip ys)).map (·.1) := by
    rw [mp]
    exact fun h => (TS _ h).1 rfl
  have I3 := Inv.laidN (s := { s1 with heap := G }) (o := .lst (Ts.map V.ref)) (t' := s1.toks) I2 dn gt (by rw [layH_out nS]; exact fS.2) ⟨by rw [List.length_map, hT, List.length_zip]; exact Nat.le_trans (Nat.min_le_left ..) z1, Ts.map Value.ref, _, ?_, eS⟩
  · refine ⟨.ref _, _, I3, rfl, q1 _ Ts _ (hT.trans List.length_zip) (fun c o e => ?_) fS.2 upd_same nd fun j T hj => ?_⟩
    · have cs : c ≠ s1.heap.objs.size + 5 := fun z => by rw [z, fS.2] at e; cases e
      rw [upd_ne cs, layH_out]
      · exact e
      · rw [mp]
        exact fun m => by
          have := (fr _ (TS _ m).2).2
          rw [this] at e
          cases e
    · have tm := List.mem_of_getElem? hj
      have jl : j < (xs.zip ys).length := by rw [← hT]; exact (List.getElem?_eq_some_iff.mp hj).1
      have e2 : (xs.zip ys)[j]? = some (xs.zip ys)[j] := List.getElem?_eq_getElem jl
      obtain ⟨x1, x2⟩ := List.getElem?_zip_eq_some.mp e2
      have e3 : (Ts.zip (xs.zip ys))[j]? = some (T, (xs.zip ys)[j]) := List.getElem?_zip_eq_some.mpr ⟨hj, e2⟩
      refine ⟨(fr _ (TS _ tm).2).2, _, _, x1, x2, ?_⟩
      rw [upd_ne (TS _ tm).1]
      exact layH_in (by rw [mp]; exact nd) (List.mem_of_getElem? e3)
  · exact valsRefs Ts
end
end HwZ

set_option Elab.async false
set_option linter.all false
set_option maxRecDepth 100000
set_option maxHeartbeats 4000000
namespace Hw
open PySem L2 PyProof.Rows
abbrev sTwo : Stmt := topS 35
/-! the ties of a chain -/
def chain (ms : List Str) : List Tie := ms.zip (ms.drop 1)
theorem chain_get {ms : List Str} {j : Nat} {t : Tie} (h : (chain ms)[j]? = some t) : ms[j]? = some t.1 ∧ ms[j + 1]? = some t.2 := by
  obtain ⟨h1, h2⟩ := List.getElem?_zip_eq_some.mp h
  rw [List.getElem?_drop, Nat.add_comm] at h2
  exact ⟨h1, h2⟩
theorem asc_lt {ms : List Str} (ha : Asc ms) {i j : Nat} {x y : Str} (hi : ms[i]? = some x) (hj : ms[j]? = some y) (hij : i < j) : strLt x y = true := by
  obtain ⟨a1, a2⟩ := List.getElem?_eq_some_iff.mp hi
  obtain ⟨b1, b2⟩ := List.getElem?_eq_some_iff.mp hj
  rw [← a2, ← b2]
  exact List.pairwise_iff_getElem.mp ha i j a1 b1 hij
theorem chain_tie {ms : List Str} (ha : Asc ms) {t : Tie} (ht : t ∈ chain ms) : t.1 ∈ ms ∧ t.2 ∈ ms ∧ strLt t.1 t.2 = true := by
  obtain ⟨j, hj⟩ := List.mem_iff_getElem?.mp ht
  obtain ⟨h1, h2⟩ := chain_get hj
  exact ⟨List.mem_of_getElem? h1, List.mem_of_getElem? h2, asc_lt ha h1 h2 (Nat.lt_succ_self j)⟩
theorem asc_inj {ms : List Str} (ha : Asc ms) {i j : Nat} {x : Str} (hi : ms[i]? = some x) (hj : ms[j]? = some x) : i = j := by
  rcases Nat.lt_trichotomy i j with h | h | h
  · exact absurd rfl (strLt_ne (asc_lt ha hi hj h))
  · exact h
  · exact absurd rfl (strLt_ne (asc_lt ha hj hi h))
theorem chain_nodup {ms : List Str} (ha : Asc ms) : (chain ms).Nodup := by
  rw [List.Nodup, List.pairwise_iff_getElem]
  intro i j hi hj hij e
  have h1 := (chain_get (List.getElem?_eq_getElem hi)).1
  have h2 := (chain_get (List.getElem?_eq_getElem hj)).1
  rw [← e] at h2
  have := asc_inj ha h1 h2
  omega
theorem chain_end {ms : List Str} (ha : Asc ms) {x y : Str} (hl : 2 < ms.length) (hx : ms[0]? = some x) (hy : ms[ms.length - 1]? = some y) : (x, y) ∉ chain ms := by
  intro h
  obtain ⟨j, hj⟩ := List.mem_iff_getElem?.mp h
  obtain ⟨h1, h2⟩ := chain_get hj
  have e1 := asc_inj ha h1 hx
  have e2 := asc_inj ha h2 hy
  omega
theorem chain_len (ms : List Str) : (chain ms).length ≤ ms.length := by
  unfold chain
  rw [List.length_zip]
  exact Nat.min_le_left ..
/-- ties among new places -/
structure MoreT (ms : List Str) (us : List Tie) : Prop where
  nd : us.Nodup
  tie : ∀ t ∈ us, t.1 ∈ ms ∧ t.2 ∈ ms ∧ strLt t.1 t.2 = true
  few : us.length ≤ ms.length + 1
theorem more_chain {ms : List Str} (ha : Asc ms) : MoreT ms (chain ms) := ⟨chain_nodup ha, fun t h => chain_tie ha h, Nat.le_trans (chain_len ms) (Nat.le_succ _)⟩
theorem more_ring {ms : List Str} (ha : Asc ms) {x y : Str} (hl : 2 < ms.length) (hx : ms[0]? = some x) (hy : ms[ms.length - 1]? = some y) : MoreT ms (chain ms ++ [(x, y)]) := by
  refine ⟨?_, fun t h => ?_, by rw [List.length_append]; exact Nat.succ_le_succ (chain_len ms)⟩
  · rw [List.nodup_append]
    exact ⟨chain_nodup ha, by simp, fun t ht u hu e => chain_end ha hl hx hy (by rw [List.mem_singleton.mp hu] at e; exact e ▸ ht)⟩
  · rcases List.mem_append.mp h with h | h
    · exact chain_tie ha h
    · rw [List.mem_singleton.mp h]
      exact ⟨List.mem_of_getElem? hx, List.mem_of_getElem? hy, asc_lt ha hx hy (by omega)⟩
/-- the two webs side by side -/
theorem own_two {ns ns2 : List Str} {ts ts2 us : List Tie} (o : OwnW ns ts) (o2 : OwnW ns2 ts2) (m : MoreT (ns2.filter fun z => !decide (z ∈ ns)) us) (hl : ns.length + ns2.length ≤ 90) (ht : ts.length ≤ 900) : OwnW (sortS (ns ++ ns2.filter fun z => !decide (z ∈ ns))) (sortP (ts ++ us)) ∧ (sortS (ns ++ ns2.filter fun z => !decide (z ∈ ns))).length ≤ ns.length + ns2.length := by
  have out : ∀ z ∈ ns2.filter fun z => !decide (z ∈ ns), z ∉ ns := fun z h => by
    have := (List.mem_filter.mp h).2
    simpa using this
  have hf := List.length_filter_le (fun z => !decide (z ∈ ns)) ns2
  have hlen : (sortS (ns ++ ns2.filter fun z => !decide (z ∈ ns))).length ≤ ns.length + ns2.length := by
    rw [(sortS_perm _).length_eq, List.length_append]
    omega
  refine ⟨⟨sortS_asc ?_, fun z hz => ?_, by omega, sortP_asc ?_, fun t ht' => ?_, ?_⟩, hlen⟩
  · rw [List.nodup_append]
    exact ⟨o.asc.nodup, o2.asc.nodup.filter _, fun x hx y hy e => out y hy (e ▸ hx)⟩
  · rcases List.mem_append.mp ((sortS_perm _).mem_iff.mp hz) with h | h
    · exact o.nm _ h
    · exact o2.nm _ (List.mem_filter.mp h).1
  · rw [List.nodup_append]
    exact ⟨o.tasc.imp (fun q e => by rw [e, ltP_irr] at q; cases q), m.nd, fun x hx y hy e => out _ (m.tie y hy).1 (e ▸ (o.tie x hx).1)⟩
  · rcases List.mem_append.mp ((sortP_perm _).mem_iff.mp ht') with h | h
    · obtain ⟨a, b, c⟩ := o.tie t h
      exact ⟨(sortS_perm _).mem_iff.mpr (List.mem_append_left _ a), (sortS_perm _).mem_iff.mpr (List.mem_append_left _ b), c⟩
    · obtain ⟨a, b, c⟩ := m.tie t h
      exact ⟨(sortS_perm _).mem_iff.mpr (List.mem_append_right _ a), (sortS_perm _).mem_iff.mpr (List.mem_append_right _ b), c⟩
  · rw [(sortP_perm _).length_eq, List.length_append]
    have := m.few
    omega
theorem pot_ne_refs {H : Hp} {a l : Addr} {N : Nat} {qs : List Addr} (h : Pot H a N) (e : H l = some (.lst (qs.map V.ref))) : a ≠ l := by
  rintro rfl
  obtain ⟨x, y, z, e', _⟩ := h.ex
  rw [e] at e'
  cases qs with
  | nil => cases e'
  | cons q qs => cases e'
theorem pot_ne_strs {H : Hp} {a l : Addr} {N : Nat} {zs : List Str} (h : Pot H a N) (e : H l = some (.lst (zs.map V.str))) : a ≠ l := by
  rintro rfl
  obtain ⟨x, y, z, e', _⟩ := h.ex
  rw [e] at e'
  cases zs with
  | nil => cases e'
  | cons q qs => cases e'
theorem pot_tup {H : Hp} {a b : Addr} {N : Nat} {k : List V} (h : Pot H a N) (e : H b = some (.tup k)) : b ≠ a := by
  rintro rfl
  obtain ⟨u, v, w, e1, _⟩ := h.ex
  rw [e1] at e; cases e
theorem TieL.sx {H H' : Hp} {a q : Addr} {N : Nat} {t : Tie} (hP : Pot H a N) (s : SameX a H H') (e : TieL H q t) : TieL H' q t := s _ _ (pot_tup hP e) e
theorem WebAt.sx {H H' : Hp} {a p : Addr} {N : Nat} {ns : List Str} {ts : List Tie} (w : WebAt H p ns ts) (hP : Pot H a N) (s : SameX a H H') : WebAt H' p ns ts := by
  obtain ⟨pl, tl, qs, h1, h2, h3, h4⟩ := w
  exact ⟨pl, tl, qs, s _ _ (pot_tup hP h1) h1, s _ _ (Ne.symm (pot_ne_strs hP h2)) h2, s _ _ (Ne.symm (pot_ne_refs hP h3)) h3, paired_mono (fun q t e => s _ _ (pot_tup hP e) e) h4⟩
theorem paired_ix2 {α β : Type} {F : α → β → Prop} : ∀ {xs : List α} {ys : List β}, xs.length = ys.length → (∀ (j : Nat) x y, xs[j]? = some x → ys[j]? = some y → F x y) → Paired F xs ys
  | [], [], _, _ => .nil
  | x :: xs, y :: ys, hl, h => .cons (h 0 x y rfl rfl) (paired_ix2 (Nat.succ.inj hl) fun j u v hu hv => h (j + 1) u v hu hv)
theorem paired_app {α β : Type} {F : α → β → Prop} : ∀ {xs : List α} {ys : List β} {us : List α} {vs : List β}, Paired F xs ys → Paired F us vs → Paired F (xs ++ us) (ys ++ vs)
  | _, _, _, _, .nil, h => h
  | _, _, _, _, .cons a t, h => .cons a (paired_app t h)
theorem cut_from1 (xs : List V) : cutV xs (some 1) none = xs.drop 1 := by
  unfold cutV
  have e1 : HT.sIx xs.length xs.length none = xs.length := rfl
  rw [e1]
  cases xs with
  | nil => rfl
  | cons x xs =>
    have e2 : HT.sIx (x :: xs).length 0 (some 1) = 1 := by
      unfold HT.sIx
      simp
      try omega
    rw [e2]
    exact List.take_of_length_le (by simp)
/-- the first web, the new places, and their ties in a list -/
structure TwoI (a p pl tl D l : Addr) (ns ms : List Str) (ts us : List Tie) (qs Ts : List Addr) (H : Hp) (M : Nat) (H' : Hp) : Prop where
  sx : SameX a H H'
  pot : Pot H' a M
  e1 : H' p = some (.tup [.ref pl, .ref tl])
  e2 : H' pl = some (.lst (ns.map V.str))
  e3 : H' tl = some (.lst (qs.map V.ref))
  e4 : Paired (TieL H') qs ts
  e5 : H' D = some (.lst (ms.map V.str))
  e6 : H' l = some (.lst (Ts.map V.ref))
  e7 : Paired (TieL H') Ts us
theorem TwoI.step {a p pl tl D l : Addr} {ns ms : List Str} {ts us : List Tie} {qs Ts : List Addr} {H : Hp} {M M' : Nat} {H' H'' : Hp} (w : TwoI a p pl tl D l ns ms ts us qs Ts H M H') (s : SameX a H' H'') (hp : Pot H'' a M') : TwoI a p pl tl D l ns ms ts us qs Ts H M' H'' :=
  ⟨w.sx.trans s, hp, s _ _ (pot_tup w.pot w.e1) w.e1, s _ _ (Ne.symm (pot_ne_strs w.pot w.e2)) w.e2, s _ _ (Ne.symm (pot_ne_refs w.pot w.e3)) w.e3, paired_mono (fun q t e => TieL.sx w.pot s e) w.e4,
    s _ _ (Ne.symm (pot_ne_strs w.pot w.e5)) w.e5, s _ _ (Ne.symm (pot_ne_refs w.pot w.e6)) w.e6, paired_mono (fun q t e => TieL.sx w.pot s e) w.e7⟩
def spTwo : Sp := fun vs H Q _ => ∃ (a : Addr) (m N : Nat), vs = [.ref a, .int m] ∧ Pot H a N ∧ N < 300000000 ∧ m ≤ 20 ∧ ∀ p ns ts H', OwnW ns ts → ns.length ≤ 2 * m → WebAt H' p ns ts → SameX a H H' → Pot H' a (N + 9000) → Q (.ref p) H'
section
variable {P : Program} {w : World} {K : PySem.W.Frag} {mg : Str → Option Value} {base : Heap}
theorem scTwo : FnScope ["pot", "most", "own", "more", "ties", "place"] ["pot", "most"] (defScope sTwo) := ⟨rfl, rfl, rfl, by decide +kernel, rfl, by decide +kernel, by decide +kernel⟩
theorem ok_two {f fT fW : Addr} {fd fdT fdW : FuncData} {k : Nat} (F : Fun K "_law_two_webs" "_law_two_webs" sTwo f fd) (B : Blt mg) (bs : mg "sorted" = none) (bz : mg "zip" = none)
    (GT : FnOk P w K mg base CX0 k fT fdT ["pot", "upto"] spTake) (gT : mg "_law_take" = some (.ref fT)) (kT : PySem.W.keepIn K (.ref fT) = true) (bT : Binds K fdT ["pot", "upto"] [])
    (GW : FnOk P w K mg base CX0 k fW fdW ["pot", "most"] spWeb) (gW : mg "_law_web" = some (.ref fW)) (kW : PySem.W.keepIn K (.ref fW) = true) (bW : Binds K fdW ["pot", "most"] []) :
    FnOk P w K mg base CX0 (k + 1) f fd ["pot", "most"] spTwo := by
  refine F.ok scTwo (fun vs H Q E h => ?_) (fun cdv A outer s H vs Q E hr h => ?_)
  · obtain ⟨a, m, N, rfl, _⟩ := h
    rfl
  · obtain ⟨a, m, N, rfl, hP, hN, hm, q⟩ := h
    have hu := hu_of hr
    have hu64 := hr.units
    refine ⟨_, pss_cons (ps_set (i := 2) scTwo.nd rfl (.inr rfl) (pe_call GW hr (by rfl) gW kW bW .nil pass0 (pa_cons (pv 0) (pa_cons (pv 1) pa_nil))))
      (pss_cons (ps_setLc (i := 3) (own := [("place", 5)]) (g := gName 5) (tt := tTest (tOp (rIn K true) (tVar 5) (tOp (rIxT K) (tVar 2) (tC (.int 0))))) rfl scTwo.nd rfl rfl (sw_true rfl rfl rfl (by decide +kernel)) (pi_list (pe_ix ix_tup (pe_call GW hr (by rfl) gW kW bW .nil pass0 (pa_cons (pv 0) (pa_cons (pv 1) pa_nil))) pe_int (fun _ _ => rfl)))
          (blkOk_by (N := ["pot", "most", "own", "more", "ties", "place"]) (sc := defScope sTwo) (by decide +kernel)) (fun _ _ _ _ _ => pg_name (i := 5) scTwo.nd rfl (Or.inl rfl))
          (fun _ _ _ _ _ => pts_one (pt_cmpR op_notIn_seq (pv 5) (pe_ix ix_tup (pv 2) pe_int (fun _ _ => rfl)) (by rfl))) (fun _ _ _ _ _ => pv 5))
      (pss_cons (ps_set (i := 4) scTwo.nd rfl (.inl rfl) (HwZ.pe_listZip rfl (by rfl) B.list (by rfl) bz (pa_cons (pv 3) (pa_cons (pe_slice sl_list (pv 3) (po_some pe_int) po_none) pa_nil))))
      (pss_cons (ps_if (PW.pt (pw_and (pt_cmpR op_gt (pe_callB call_len_seq (by rfl) B.len PySem.boot_len (pa_cons (pv 3) pa_nil)) pe_int (nomark _)) (pw_and1 (pt_cmpR op_eq (pe_call GT hr (by rfl) gT kT bT .nil pass0 (pa_cons (pv 0) (pa_cons pe_int pa_nil))) pe_int (nomark _)))))
        (pss_one (ps_expr (pe_bm PySem.F.plainAttrs_list PySem.F.slot_list_append PySem.F.type_list_append mt_append (pv 4) (pa_cons (pe_tup (pa_cons (pe_ix ix_list (pv 3) pe_int (fun _ _ => rfl)) (pa_cons (pe_ix ix_list (pv 3) (pe_un un_neg pe_int) (fun _ _ => rfl)) pa_nil))) pa_nil)))) pss_nil)
      (pss_one (ps_ret (pe_tup (pa_cons (pe_callB (cr_sortT hu64) (by rfl) bs (by decide +kernel) (pa_cons (pe_op op_cat (pe_ix ix_tup (pv 2) pe_int (fun _ _ => rfl)) (pv 3)) pa_nil))
        (pa_cons (pe_callB (cr_sortTP hu64) (by rfl) bs (by decide +kernel) (pa_cons (pe_op op_cat (pe_ix ix_tup (pv 2) pe_int (fun _ _ => rfl)) (pv 4)) pa_nil)) pa_nil)))))))), ?_⟩
    refine rs_set ?_
    refine ⟨.ref a, rfl, .int m, rfl, a, m, N, rfl, hP, by omega, by omega, fun p ns ts H1 own l1 l2 w1 s1 hp1 => ?_⟩
    refine rs_set ?_
    refine ⟨.ref a, rfl, .int m, rfl, a, m, N + 4000, rfl, hp1, by omega, by omega, fun p2 ns2 ts2 H2 own2 l21 l22 w2 s2 hp2 => ?_⟩
    have w1' := w1.sx hp1 s2
    obtain ⟨pl, tl, qs, e1, e2, e3, e4⟩ := w1'
    obtain ⟨pl2, tl2, qs2, f1, f2, f3, f4⟩ := w2
    have sx2 := s1.trans s2
    clear w1 s1 hp1 s2
    refine ⟨p2, [.ref pl2, .ref tl2], 0, .ref pl2, rfl, rfl, sqt_of f1, rfl, pl2, rfl, ⟨_, sql_of f2⟩, fun D nD => ?_⟩
    refine lc_list (xs := ns2.map V.str) (fun j H' => Same H2 H' ∧ H' D = some (.lst (((ns2.take j).filter fun z => !decide (z ∈ ns)).map V.str))) ⟨same_upd nD, upd_same⟩ (fun j H' _ w => sql_of (w.1 _ _ f2)) ?_ ?_
    · rintro j v H3 hv ⟨s3, eD⟩
      obtain ⟨z, hz, rfl⟩ := map_get hv
      have hj := (List.getElem?_eq_some_iff.mp hz).1
      refine ⟨rfl, .str z, rfl, .ref p, rfl, p, [.ref pl, .ref tl], 0, .ref pl, rfl, rfl, sqt_of (s3 _ _ e1), rfl, pl, _, rfl, .inl (sql_of (s3 _ _ e2)), rfl, ?_, _, rfl, ?_⟩
      · rw [List.all_eq_true]
        intro y hy
        obtain ⟨z, _, rfl⟩ := List.mem_map.mp hy
        rfl
      show if (!inV (.str z) (ns.map V.str)) = true then _ else _
      rw [inV_str]
      by_cases hin : z ∈ ns
      · rw [decide_eq_true hin]
        show if false = true then _ else _
        rw [if_neg Bool.false_ne_true]
        refine ⟨s3, ?_⟩
        rw [eD, filter_snoc hz, decide_eq_true hin]
        show _ = some (HO.lst ((_ ++ if false = true then [z] else []).map V.str))
        rw [if_neg Bool.false_ne_true, List.append_nil]
      · rw [decide_eq_false hin]
        show if true = true then _ else _
        rw [if_pos rfl]
        refine ⟨.str z, rfl, _, eD, smallM (by rw [List.length_map]; exact Nat.le_trans (List.length_filter_le _ _) (by rw [List.length_take]; omega)), fun b o e => ?_, ?_⟩
        · rw [upd_ne (ne_of_none e nD)]; exact s3 _ _ e
        · rw [upd_same, filter_snoc hz, decide_eq_false hin, if_pos (show (!false) = true from rfl), List.map_append]; rfl
    · rintro H3 ⟨s3, eD⟩
      rw [List.length_map, List.take_length] at eD
      have hml : (ns2.filter fun z => !decide (z ∈ ns)).length ≤ 20 := Nat.le_trans (List.length_filter_le _ _) (by omega)
      have hma : Asc (ns2.filter fun z => !decide (z ∈ ns)) := own2.asc.filter _
      have ownT := fun us (mt : MoreT (ns2.filter fun z => !decide (z ∈ ns)) us) => own_two own own2 mt (by omega) l2
      generalize (ns2.filter fun z => !decide (z ∈ ns)) = ms at eD hml hma ownT
      have hp3 := hp2.same s3
      have sx3 := sx2.trans (.of s3)
      have e1 := s3 _ _ e1
      have e2 := s3 _ _ e2
      have e3 := s3 _ _ e3
      have e4 : Paired (TieL H3) qs ts := paired_mono (fun q t e => s3 _ _ e) e4
      clear f1 f2 f3 f4 nD hp2 sx2 s3
      refine rs_set ?_
      refine ⟨.ref D, rfl, .ref D, rfl, 1, rfl, D, _, rfl, sql_of eD, fun c nc => ?_⟩
      rw [cut_from1, ← List.map_drop]
      refine ⟨D, c, ms.map V.str, (ms.drop 1).map V.str, rfl, sql_of ((same_upd nc) _ _ eD), sql_of upd_same, fun l Ts H4 hTl s4 nl el hnd cont => ?_⟩
      have cT : Paired (TieL H4) Ts (chain ms) := paired_ix2 (by rw [hTl, List.length_map, List.length_map]; exact (List.length_zip).symm) fun j T t hT ht => by
        obtain ⟨_, x, y, hx, hy, eT⟩ := cont j T hT
        obtain ⟨h1, h2⟩ := List.getElem?_zip_eq_some.mp ht
        rw [List.getElem?_map, h1] at hx
        rw [List.getElem?_map, h2] at hy
        cases hx
        cases hy
        exact eT
      have s34 := (same_upd (o := .lst ((ms.drop 1).map V.str)) nc).trans s4
      have nl3 : H3 l = none := (same_upd nc).free nl
      have nlD : l ≠ D := fun z => by rw [z, eD] at nl3; cases nl3
      have nlpl : l ≠ pl := fun z => by rw [z, e2] at nl3; cases nl3
      have nltl : l ≠ tl := fun z => by rw [z, e3] at nl3; cases nl3
      have nlp : l ≠ p := fun z => by rw [z, e1] at nl3; cases nl3
      have nl0 : ∀ b o, b ≠ a → H b = some o → b ≠ l := fun b o hb e z => by
        have := sx3 _ _ hb e
        rw [z, nl3] at this
        cases this
      have w0 : TwoI a p pl tl D l ns ms ts (chain ms) qs Ts H (N + 8000) H4 := ⟨sx3.trans (.of s34), (hp3.same s34).mono (by omega), s34 _ _ e1, s34 _ _ e2, s34 _ _ e3, paired_mono (fun q t e => s34 _ _ e) e4, s34 _ _ eD, el, cT⟩
      clear sx3 hp3 e1 e2 e3 e4 eD nc s34 s4 nl el cT cont hnd hTl nl3
      refine rs_if_put (fun b H' => TwoI a p pl tl D l ns ms ts (chain ms) qs Ts H (N + 8001) H' ∧ (b = true → 2 < ms.length)) (fun H' => ∃ us Ts', MoreT ms us ∧ TwoI a p pl tl D l ns ms ts us qs Ts' H (N + 8001) H') ?_ ?_ ?_ (fun D' H6 qn w6 => qn H6 ⟨_, _, more_chain hma, w6.1⟩)
      · intro Q1 q1
        refine ⟨.ref D, rfl, D, ms.map V.str, rfl, .inl (sql_of w0.e5), _, _, rfl, rfl, _, rfl, ite2 (fun c0 => ?_) (fun c0 => q1 _ _ ⟨w0.step (SameX.refl _ _) (w0.pot.mono (by omega)), fun z => nomatch z⟩)⟩
        refine ⟨.ref a, rfl, a, 2, N + 8000, rfl, w0.pot, by omega, by decide, by decide, fun r H5 r0 r1 s5 hp5 => ⟨rfl, _, rfl, q1 _ _ ⟨w0.step s5 hp5, fun _ => ?_⟩⟩⟩
        have := of_decide_eq_true c0
        rw [List.length_map] at this
        omega
      · rintro H6 ⟨us, Ts', mt, w6⟩
        obtain ⟨oT, oL⟩ := ownT us mt
        have musl := mt.few
        refine ⟨.ref p, rfl, p, [.ref pl, .ref tl], 0, .ref pl, rfl, rfl, sqt_of w6.e1, rfl, .ref D, rfl, pl, D, _, _, rfl, rfl, w6.e2, w6.e5, Nat.le_of_lt (smallM (by rw [List.length_map, List.length_map]; omega)), fun c1 nc1 => ?_⟩
        refine ⟨c1, ns ++ ms, rfl, sql_of (by rw [List.map_append]; exact upd_same), Nat.le_of_lt (smallM (by rw [List.length_append]; omega)), fun p1 np1 => ?_⟩
        have s7 := (same_upd (o := .lst (ns.map V.str ++ ms.map V.str)) nc1).trans (same_upd (o := .lst ((sortS (ns ++ ms)).map V.str)) np1)
        have ep1 : (upd (upd H6 c1 (.lst (ns.map V.str ++ ms.map V.str))) p1 (.lst ((sortS (ns ++ ms)).map V.str))) p1 = some (.lst ((sortS (ns ++ ms)).map V.str)) := upd_same
        have w7 := w6.step (SameX.of s7) (w6.pot.same s7)
        generalize (upd (upd H6 c1 (.lst (ns.map V.str ++ ms.map V.str))) p1 (.lst ((sortS (ns ++ ms)).map V.str))) = H7 at ep1 w7 ⊢
        refine ⟨.ref p, rfl, p, [.ref pl, .ref tl], 1, .ref tl, rfl, rfl, sqt_of w7.e1, rfl, .ref l, rfl, tl, l, _, _, rfl, rfl, w7.e3, w7.e6, Nat.le_of_lt (smallM (by rw [List.length_map, List.length_map, Paired.length w7.e4, Paired.length w7.e7]; omega)), fun c2 nc2 => ?_⟩
        have s8 := same_upd (o := .lst (qs.map V.ref ++ Ts'.map V.ref)) nc2
        refine ⟨c2, qs ++ Ts', ts ++ us, rfl, sql_of (by rw [List.map_append]; exact upd_same), paired_mono (fun q t e => sqt_of (s8 _ _ e)) (paired_app w7.e4 w7.e7), Nat.le_of_lt (smallM (by rw [List.length_append]; omega)), fun p2 qs' np2 hq => ⟨by show 2 ≤ sizeLine; decide, fun p3 np3 => ?_⟩⟩
        have s9 := (s8.trans (same_upd (o := .lst (qs'.map V.ref)) np2)).trans (same_upd (o := .tup [.ref p1, .ref p2]) np3)
        exact q p3 _ _ _ oT (by omega) ⟨p1, p2, qs', upd_same, s9 _ _ ep1, (same_upd np3) _ _ upd_same, hq _ (paired_mono (fun q t e => s9 _ _ e) (paired_app w7.e4 w7.e7))⟩ (w7.sx.trans (.of s9)) ((w7.pot.same s9).mono (by omega))
      · rintro D' H6 qn ⟨w6, hlen⟩
        have hlen := hlen rfl
        have nla := pot_ne_refs w6.pot w6.e6
        have hx : ms[0]? = some ms[0] := List.getElem?_eq_getElem _
        have hy : ms[ms.length - 1]? = some (ms[ms.length - 1]'(by omega)) := List.getElem?_eq_getElem _
        refine ⟨.ref l, rfl, .inl ⟨rfl, _, sql_of w6.e6⟩, .ref D, rfl, D, ms.map V.str, _, _, rfl, rfl, sql_of w6.e5, at_ns (j := 0) rfl (by omega), .ref D, rfl, 1, rfl, D, ms.map V.str, _, _, rfl, rfl, sql_of w6.e5, at_last (by omega), by show 2 ≤ sizeLine; decide, fun t nt => ⟨l, _, _, rfl, rfl, (same_upd nt) _ _ w6.e6, smallM (by rw [List.length_map, Paired.length w6.e7]; have := chain_len ms; omega), qn _ ⟨_, Ts ++ [t], more_ring hma hlen hx hy, ?_⟩⟩⟩
        have k6 : ∀ {b : Addr} {o : HO}, b ≠ l → H6 b = some o → (upd (upd H6 t (.tup [V.str ms[0], V.str (ms[ms.length - 1]'(by omega))])) l (.lst (Ts.map V.ref ++ [.ref t]))) b = some o := fun {b o} hb e => by
          rw [upd_ne hb, upd_ne (ne_of_none e nt)]
          exact e
        have kt : ∀ (q : Addr) (u : Tie), TieL H6 q u → TieL (upd (upd H6 t (.tup [V.str ms[0], V.str (ms[ms.length - 1]'(by omega))])) l (.lst (Ts.map V.ref ++ [.ref t]))) q u := fun q u e => k6 (fun z => by
          have e : H6 q = _ := e
          rw [z, w6.e6] at e
          cases e) e
        have tnl : t ≠ l := fun z => by rw [z, w6.e6] at nt; cases nt
        refine ⟨fun b o hb e => k6 (nl0 b o hb e) (w6.sx b o hb e), ?_, k6 (Ne.symm nlp) w6.e1, k6 (Ne.symm nlpl) w6.e2, k6 (Ne.symm nltl) w6.e3, paired_mono kt w6.e4, k6 (Ne.symm nlD) w6.e5, by rw [upd_same, List.map_append]; rfl, paired_snoc ?_ (paired_mono kt w6.e7)⟩
        · obtain ⟨xx, yy, zz, e, hh⟩ := w6.pot.ex
          exact ⟨xx, yy, zz, k6 nla e, hh⟩
        · show (upd _ l _) t = _
          rw [upd_ne tnl, upd_same]
end
end Hw

set_option Elab.async false
set_option linter.all false
set_option maxRecDepth 100000
set_option maxHeartbeats 4000000
namespace Hw
open PySem L2 PyProof.Rows
abbrev sRight : Stmt := topS 36
abbrev sLaw : Stmt := topS 37
/-! keywords -/
def gRev : List Value → List Value → List Value := fun us ws => match us with
  | [] => ws.reverse
  | _ :: _ => []
def gVRev : List V → List V → List V := fun us ws => match us with
  | [] => ws.reverse
  | _ :: _ => []
theorem vals_rev : ∀ {vs : List V} {us : List Value}, Vals vs us → Vals vs.reverse us.reverse
  | _, _, .nil => .nil
  | _, _, .cons r t => by
    rw [List.reverse_cons, List.reverse_cons]
    exact (vals_rev t).append (.cons r .nil)
theorem rev_rel {vs : List V} {us : List Value} {zs : List V} {ws : List Value} (r : Vals vs us) (h : Vals zs ws) : Vals (gVRev vs zs) (gRev us ws) := by
  cases r with
  | nil => exact vals_rev h
  | cons _ _ => exact .nil
theorem kb1 {K : PySem.W.Frag} {fd : FuncData} {ps ks : List Str} (hp : ps.length = 1) (h : ∀ (s : Shared) (a : Value), BindsTo s fd ⟨[], ks.zip [a]⟩ (ps.zip [a])) : KBinds K fd ps ks gRev gVRev := by
  refine ⟨fun s us ws _ hl => ?_, rev_rel⟩
  rw [hp] at hl
  cases us with
  | cons u us => cases hl
  | nil =>
    have hl : ws.reverse.length = 1 := hl
    rw [List.length_reverse] at hl
    match ws, hl with
    | [a], _ => exact h s a
/-! what is shown -/
theorem depthAll_le {m : Nat} : ∀ {ds : List PyData}, (∀ d ∈ ds, d.depth ≤ m) → PyData.depthAll ds ≤ m
  | [], _ => by rw [PyData.depthAll]; exact Nat.zero_le _
  | d :: ds, h => by
    rw [PyData.depthAll]
    have h1 := h d List.mem_cons_self
    have h2 := depthAll_le fun x hx => h x (List.mem_cons_of_mem _ hx)
    omega
def pcD (part : List Str) : PyData := .tuple (part.map PyData.str)
def poD (ps : List (List Str)) (b : Bool) : PyData := .tuple [.tuple (ps.map pcD), .bool b]
def bestD (b : Best) : PyData := .tuple [.int (b.1 : Nat), .str b.2.1, .str b.2.2]
theorem depth_pc (part : List Str) : (pcD part).depth ≤ 1 := by
  unfold pcD
  rw [PyData.depth]
  have := depthAll_le (m := 0) (ds := part.map PyData.str) fun d hd => by
    obtain ⟨t, _, rfl⟩ := List.mem_map.mp hd
    rw [PyData.depth]; exact Nat.le_refl _
  omega
theorem depth_parts (ps : List (List Str)) : (PyData.tuple (ps.map pcD)).depth ≤ 2 := by
  rw [PyData.depth]
  have := depthAll_le (m := 1) (ds := ps.map pcD) fun d hd => by
    obtain ⟨t, _, rfl⟩ := List.mem_map.mp hd
    exact depth_pc t
  omega
theorem tame_bool (b : Bool) : Tame 8 (.bool b) := ⟨by rw [PyData.canLay0], by rw [PyData.showable], by rw [PyData.intsShort], by rw [PyData.depth]; decide, by rw [PyData.weight]; decide⟩
theorem tame_part {part : List Str} (nm : ∀ z ∈ part, Nm z) (hl : part.length ≤ 64) : Tame 576 (pcD part) := by
  have t := (tame_tup (w := 8) (ds := part.map PyData.str) fun d hd => by
    obtain ⟨z, hz, rfl⟩ := List.mem_map.mp hd
    exact ⟨tame_str (nm z hz), by rw [PyData.depth]; decide⟩).1
  rw [List.length_map] at t
  exact t.mono (by omega)
theorem tame_po {ps : List (List Str)} (b : Bool) (hp : ∀ part ∈ ps, part.length ≤ 64 ∧ ∀ z ∈ part, Nm z) (hl : ps.length ≤ 64) : Tame 100000 (poD ps b) := by
  refine ((tame_tup (w := 40000) (ds := [.tuple (ps.map pcD), .bool b]) fun d hd => ?_).1).mono (by show 2 * 40001 ≤ _; decide)
  simp only [List.mem_cons, List.not_mem_nil, or_false] at hd
  rcases hd with rfl | rfl
  · have t := (tame_tup (w := 576) (ds := ps.map pcD) fun d hd => by
      obtain ⟨part, h, rfl⟩ := List.mem_map.mp hd
      exact ⟨tame_part (hp part h).2 (hp part h).1, Nat.le_trans (depth_pc _) (by decide)⟩).1
    rw [List.length_map] at t
    exact ⟨t.mono (by omega), Nat.le_trans (depth_parts ps) (by decide)⟩
  · exact ⟨(tame_bool b).mono (by decide), by rw [PyData.depth]; decide⟩
theorem tame_best {b : Best} (h1 : b.1 ≤ 200) (h2 : Nm b.2.1) (h3 : Nm b.2.2) : Tame 100 (bestD b) := by
  refine ((tame_tup (w := 8) (ds := [.int (b.1 : Nat), .str b.2.1, .str b.2.2]) fun d hd => ?_).1).mono (by show 3 * 9 ≤ _; decide)
  simp only [List.mem_cons, List.not_mem_nil, or_false] at hd
  rcases hd with rfl | rfl | rfl
  · exact ⟨tame_int h1, by rw [PyData.depth]; decide⟩
  · exact ⟨tame_str h2, by rw [PyData.depth]; decide⟩
  · exact ⟨tame_str h3, by rw [PyData.depth]; decide⟩
theorem dp_ss {K : PySem.W.Frag} {H : Hp} : ∀ zs : List Str, DpAll K H (zs.map V.str) (zs.map PyData.str)
  | [] => .nil
  | z :: zs => .cons (.str z) (dp_ss zs)
theorem dp_parts {K : PySem.W.Frag} {H : Hp} : ∀ {qs : List Addr} {ps : List (List Str)}, Paired (PartT H) qs ps → DpAll K H (qs.map V.ref) (ps.map pcD)
  | _, _, .nil => .nil
  | _, _, .cons a t => .cons (.tup (sqt_of a) (dp_ss _)) (dp_parts t)
theorem dp_po {K : PySem.W.Frag} {H : Hp} {t p : Addr} {ps : List (List Str)} {b : Bool} (e : H t = some (.tup [.ref p, .bl b])) (h : PartsAt H p ps) : Dp K H (.ref t) (poD ps b) := by
  obtain ⟨qs, h1, h2⟩ := h
  exact .tup (sqt_of e) (.cons (.tup (sqt_of h1) (dp_parts h2)) (.cons (.bl b) .nil))
theorem dp_best {K : PySem.W.Frag} {H : Hp} {bt : Addr} {b : Best} (e : BestT H bt b) : Dp K H (.ref bt) (bestD b) := .tup (sqt_of e) (.cons (.int _) (.cons (.str _) (.cons (.str _) .nil)))
theorem PartsAt.keep {H H' : Hp} {p : Addr} {ps : List (List Str)} (h : PartsAt H p ps) (s : Same H H') : PartsAt H' p ps := by
  obtain ⟨qs, h1, h2⟩ := h
  exact ⟨qs, s _ _ h1, paired_mono (fun q t e => s _ _ e) h2⟩
theorem WebAt.keep {H H' : Hp} {p : Addr} {ns : List Str} {ts : List Tie} (w : WebAt H p ns ts) (s : Same H H') : WebAt H' p ns ts := by
  obtain ⟨pl, tl, qs, h1, h2, h3, h4⟩ := w
  exact ⟨pl, tl, qs, s _ _ h1, s _ _ h2, s _ _ h3, paired_mono (fun q t e => s _ _ e) h4⟩
theorem parts_mem {ts : List Tie} : ∀ {l : List Str} {acc : List (List Str)} {part : List Str}, part ∈ l.foldl (pstep ts) acc → part ∈ acc ∨ ∃ z ∈ l, part = compOf ts z
  | [], _, _, h => .inl h
  | x :: l, acc, part, h => by
    rcases parts_mem (l := l) (acc := pstep ts acc x) h with h | ⟨z, hz, e⟩
    · unfold pstep at h
      by_cases c : x ∈ acc.flatten
      · rw [if_pos c] at h
        exact .inl h
      · rw [if_neg c] at h
        rcases List.mem_append.mp h with h | h
        · exact .inl h
        · exact .inr ⟨x, List.mem_cons_self, List.mem_singleton.mp h⟩
    · exact .inr ⟨z, List.mem_cons_of_mem _ hz, e⟩
theorem parts_few {ts : List Tie} : ∀ (l : List Str) (acc : List (List Str)), (l.foldl (pstep ts) acc).length ≤ acc.length + l.length
  | [], _ => Nat.le_refl _
  | x :: l, acc => by
    have h := parts_few (ts := ts) l (pstep ts acc x)
    have h2 : (pstep ts acc x).length ≤ acc.length + 1 := by
      unfold pstep
      by_cases c : x ∈ acc.flatten
      · rw [if_pos c]; omega
      · rw [if_neg c, List.length_append]; exact Nat.le_refl _
    rw [List.length_cons]
    show (l.foldl (pstep ts) (pstep ts acc x)).length ≤ _
    omega
theorem parts_ok {ns : List Str} {ts : List Tie} (g : Gr ns ts) (ha : Asc ns) {part : List Str} (h : part ∈ partsL ns ts) : part.length ≤ ns.length ∧ ∀ z ∈ part, z ∈ ns := by
  rcases parts_mem h with h | ⟨z, hz, rfl⟩
  · cases h
  · refine ⟨?_, fun y hy => ((mem_comp g hz).mp hy).within g hz⟩
    rw [comp_filter g ha hz]
    exact List.length_filter_le _ _
theorem d_few {ns : List Str} {ts : List Tie} (g : Gr ns ts) {p y : Str} (hp : p ∈ ns) (h : y ∈ compOf ts p) : dOf ts p y ≤ ns.length := by
  obtain ⟨far, hb, n0, f⟩ := bfs_ex g.nbs hp
  rw [comp_eq hb, (sortS_perm _).mem_iff] at h
  have h1 := hb.short h
  have h2 : far.length ≤ ns.length := f.few
  unfold dOf
  rw [farOf_eq hb]
  omega
def BestIn (ns : List Str) (b : Best) : Prop := b.1 ≤ ns.length ∧ b.2.1 ∈ ns ∧ b.2.2 ∈ ns
theorem bestIn_step {ns : List Str} {ts : List Tie} (g : Gr ns ts) {one : Str} (ho : one ∈ ns) : ∀ {l : List Str} {b : Best}, (∀ y ∈ l, y ∈ compOf ts one) → BestIn ns b → BestIn ns (l.foldl (bstep ts one) b)
  | [], _, _, h => h
  | y :: l, b, hl, h => by
    refine bestIn_step (l := l) (b := bstep ts one b y) g ho (fun z hz => hl z (List.mem_cons_of_mem _ hz)) ?_
    have hy := hl y List.mem_cons_self
    unfold bstep
    by_cases c : b.1 < dOf ts one y
    · rw [if_pos c]
      exact ⟨d_few g ho hy, ho, ((mem_comp g ho).mp hy).within g ho⟩
    · rw [if_neg c]; exact h
theorem bestIn_all {ns : List Str} {ts : List Tie} (g : Gr ns ts) : ∀ {l : List Str} {b : Best}, (∀ y ∈ l, y ∈ ns) → BestIn ns b → BestIn ns (l.foldl (codeIn ts) b)
  | [], _, _, h => h
  | y :: l, b, hl, h => bestIn_all (l := l) (b := codeIn ts b y) g (fun z hz => hl z (List.mem_cons_of_mem _ hz)) (bestIn_step g (hl y List.mem_cons_self) (fun z hz => hz) h)
theorem best_in {ns : List Str} {ts : List Tie} (g : Gr ns ts) (hne : 0 < ns.length) : BestIn ns (codeBest ns ts) := by
  refine bestIn_all g (fun y hy => hy) ?_
  have : ns.headD (Str.ofString "") ∈ ns := by
    cases ns with
    | nil => cases hne
    | cons x l => exact List.mem_cons_self
  exact ⟨Nat.zero_le _, this, this⟩
theorem rs_tupE {K : PySem.W.Frag} {te : TE} {g : TG} {tb u : TS} {D : Ends} {σ : L2.St} {H : Hp} (P0 : List V → Addr → Hp → Prop) (hw : ∀ Q : VK, (∀ xs t H1, P0 xs t H1 → Q (.ref t) H1) → te σ H Q) (Pv : List V → Addr → Hp → Nat → L2.St → Hp → Prop) (h0 : ∀ xs t H1, P0 xs t H1 → Pv xs t H1 0 σ H1)
    (hl : ∀ xs t H1 i σ H, Pv xs t H1 i σ H → SqT K H t xs) (hs : ∀ xs t H1 i x σ H, xs[i]? = some x → Pv xs t H1 i σ H → g x σ H fun σ2 H2 => tb { D with nx := Pv xs t H1 (i + 1), ct := Pv xs t H1 (i + 1), bk := u D } σ2 H2) (hd : ∀ xs t H1 σ H, Pv xs t H1 xs.length σ H → u D σ H) : tSeq (tFor (iTup K te) g tb) u D σ H :=
  hw _ fun xs t H1 e => ⟨t, rfl, ⟨xs, hl _ _ _ _ _ _ (h0 xs t H1 e)⟩, for_tup (D := { D with nx := u D }) (Pv xs t H1) (h0 xs t H1 e) (fun i σ H _ q => hl _ _ _ _ _ _ q) (fun i x σ H hx q => hs xs t H1 i x σ H hx q) (fun σ H q => hd xs t H1 σ H q)⟩
def spRight : Sp := fun vs H Q _ => ∃ (a : Addr), vs = [.ref a] ∧ Pot H a 0 ∧ ∀ H', SameX a H H' → Q (.bl true) H'
def spLaw (K : PySem.W.Frag) : Sp := fun vs H Q _ => ∃ (a : Addr) (ns : List Int), vs = [.ref a] ∧ SqL K H a (ns.map V.int) ∧ ns.length ≤ 63 ∧ ∀ H', Q (.bl true) H'
/-- a web that was drawn -/
def Drawn (H : Hp) (v : V) : Prop := ∃ (p : Addr) (ns : List Str) (ts : List Tie), v = .ref p ∧ OwnW ns ts ∧ ns.length ≤ 40 ∧ WebAt H p ns ts
section
variable {P : Program} {w : World} {K : PySem.W.Frag} {mg : Str → Option Value} {base : Heap}
theorem scRight : FnScope ["pot", "own", "web"] ["pot"] (defScope sRight) := ⟨rfl, rfl, rfl, by decide +kernel, rfl, by decide +kernel, by decide +kernel⟩
theorem ok_right {f fW f2 fX fI fP fD fR fA fB fL C : Addr} {fd fdW fd2 fdX fdI fdP fdD fdR fdA fdB fdL : FuncData} {k j : Nat} (hj : j + 1 ≤ k) (F : Fun K "_law_right" "_law_right" sRight f fd) (T : TxtW K mg C) (M : Mk K C fI) (br : mg "repr" = none)
    (GW : FnOk P w K mg base CX0 k fW fdW ["pot", "most"] spWeb) (gW : mg "_law_web" = some (.ref fW)) (kW : PySem.W.keepIn K (.ref fW) = true) (bW : Binds K fdW ["pot", "most"] [])
    (G2 : FnOk P w K mg base CX0 k f2 fd2 ["pot", "most"] spTwo) (g2 : mg "_law_two_webs" = some (.ref f2)) (k2 : PySem.W.keepIn K (.ref f2) = true) (b2 : Binds K fd2 ["pot", "most"] [])
    (GX : FnOk P w K mg base CX0 k fX fdX ["own"] spText) (gX : mg "_law_web_text" = some (.ref fX)) (kX : PySem.W.keepIn K (.ref fX) = true) (bX : Binds K fdX ["own"] [])
    (GI : FnOk P w K mg base CX0 j fI fdI ["self", "text"] (spInitW C)) (bI : Binds K fdI ["self", "text"] [])
    (GP : FnOk P w K mg base CX0 k fP fdP ["web"] (spPartsOf C)) (gP : mg "parts_of" = some (.ref fP)) (kP : PySem.W.keepIn K (.ref fP) = true) (bP : KBinds K fdP ["web"] ["web"] gRev gVRev)
    (GD : FnOk P w K mg base CX0 k fD fdD ["web"] (spIsWood C)) (gD : mg "is_wood" = some (.ref fD)) (kD : PySem.W.keepIn K (.ref fD) = true) (bD : KBinds K fdD ["web"] ["web"] gRev gVRev)
    (GR : FnOk P w K mg base CX0 k fR fdR ["web"] (spFarthest C)) (gR : mg "farthest" = some (.ref fR)) (kR : PySem.W.keepIn K (.ref fR) = true) (bR : KBinds K fdR ["web"] ["web"] gRev gVRev)
    (GA : FnOk P w K mg base CX0 k fA fdA ["own"] spLParts) (gA : mg "_law_parts" = some (.ref fA)) (kA : PySem.W.keepIn K (.ref fA) = true) (bA : Binds K fdA ["own"] [])
    (GB : FnOk P w K mg base CX0 k fB fdB ["own"] spLWood) (gB : mg "_law_is_wood" = some (.ref fB)) (kB : PySem.W.keepIn K (.ref fB) = true) (bB : Binds K fdB ["own"] [])
    (GL : FnOk P w K mg base CX0 k fL fdL ["own"] spLFar) (gL : mg "_law_farthest" = some (.ref fL)) (kL : PySem.W.keepIn K (.ref fL) = true) (bL : Binds K fdL ["own"] []) :
    FnG P w K mg base CX0 (k + 1) f fd ["pot"] spRight := by
  refine funG F scRight (fun vs H Q E h => ?_) (fun cdv A outer s H vs Q E hg h => ?_)
  · obtain ⟨a, rfl, _⟩ := h
    rfl
  · obtain ⟨a, rfl, hP, q⟩ := h
    have hr := hg.r
    have hrj := hr.mono hj
    have hu := hu_of hr
    have hu64 := hr.units
    have hun := hr.un
    have hgg := hg.g
    have h100 : (A.deeper (envOfC "_law_right" (defScope sRight) s.heap.objs.size f cdv)).units + 100 < cLine := by omega
    refine ⟨_, pss_cons (ps_for PassesOwn.never rfl (pi_tup (pe_tup (pa_cons (pe_call GW hr (by rfl) gW kW bW .nil pass0 (pa_cons (pv 0) (pa_cons pe_int pa_nil))) (pa_cons (pe_call G2 hr (by rfl) g2 k2 b2 .nil pass0 (pa_cons (pv 0) (pa_cons pe_int pa_nil))) (pa_cons (pe_call GW hr (by rfl) gW kW bW .nil pass0 (pa_cons (pv 0) (pa_cons pe_int pa_nil))) (pa_cons (pe_call G2 hr (by rfl) g2 k2 b2 .nil pass0 (pa_cons (pv 0) (pa_cons pe_int pa_nil))) pa_nil)))))) (pg_name (i := 1) scRight.nd rfl (.inl rfl))
        (pss_cons (ps_set (i := 2) scRight.nd rfl (.inl rfl) (pe_make M GI hrj (by rfl) T.mW bI .nil pass0 (pa_cons (pe_call GX hr (by rfl) gX kX bX .nil pass0 (pa_cons (pv 1) pa_nil)) pa_nil)))
        (pss_cons (ps_if (pt_cmpR op_ne (pe_callB (call_repr hgg h100) (by rfl) br PyProof.Rows.boot_repr (pa_cons (pe_tup (pa_cons (pe_callK0 GP hr (by rfl) gP kP bP pass0 (pk_cons (pv 2) pk_nil)) (pa_cons (pe_callK0 GD hr (by rfl) gD kD bD pass0 (pk_cons (pv 2) pk_nil)) pa_nil))) pa_nil))
            (pe_callB (call_repr hgg h100) (by rfl) br PyProof.Rows.boot_repr (pa_cons (pe_tup (pa_cons (pe_call GA hr (by rfl) gA kA bA .nil pass0 (pa_cons (pv 1) pa_nil)) (pa_cons (pe_call GB hr (by rfl) gB kB bB .nil pass0 (pa_cons (pv 1) pa_nil)) pa_nil))) pa_nil)) (nomark _)) (pss_one (ps_ret pe_bl)) pss_nil)
        (pss_one (ps_if (PW.pt (pw_and (pt_cmpR (op_neD hu64) (pe_ix ix_tup (pv 1) pe_int (fun _ _ => rfl)) (pe_lst pa_nil) (nomark _)) (pw_and1 (pt_cmpR op_ne (pe_callB (call_repr hgg h100) (by rfl) br PyProof.Rows.boot_repr (pa_cons (pe_callK0 GR hr (by rfl) gR kR bR pass0 (pk_cons (pv 2) pk_nil)) pa_nil))
            (pe_callB (call_repr hgg h100) (by rfl) br PyProof.Rows.boot_repr (pa_cons (pe_call GL hr (by rfl) gL kL bL .nil pass0 (pa_cons (pv 1) pa_nil)) pa_nil)) (nomark _))))) (pss_one (ps_ret pe_bl)) pss_nil)))))
      (pss_one (ps_ret pe_bl)), ?_⟩
    refine rs_tupE (fun xs t H1 => SameX a H H1 ∧ H1 t = some (.tup xs) ∧ ∀ x ∈ xs, Drawn H1 x) (fun Q1 q1 => ?_) (fun xs t H1 i σ' H' => ∃ o1 o2, σ' = [some (.ref a), o1, o2] ∧ SameX a H H1 ∧ H1 t = some (.tup xs) ∧ (∀ x ∈ xs, Drawn H1 x) ∧ Same H1 H')
      (fun xs t H1 ⟨w1, w2, w3⟩ => ⟨_, _, rfl, w1, w2, w3, Same.refl _⟩) (fun xs t H1 i σ' H' ⟨_, _, _, _, w2, _, w4⟩ => sqt_of (w4 _ _ w2)) ?_ ?_
    · refine ⟨.ref a, rfl, a, 5, 0, rfl, hP, by omega, by omega, fun p1 ns1 ts1 H1 o1 l1 m1 w1 s1 hp1 => ?_⟩
      refine ⟨.ref a, rfl, a, 7, _, rfl, hp1, by omega, by omega, fun p2 ns2 ts2 H2 o2 l2 w2 s2 hp2 => ?_⟩
      refine ⟨.ref a, rfl, a, 30, _, rfl, hp2, by omega, by omega, fun p3 ns3 ts3 H3 o3 l3 m3 w3 s3 hp3 => ?_⟩
      refine ⟨.ref a, rfl, a, 15, _, rfl, hp3, by omega, by omega, fun p4 ns4 ts4 H4 o4 l4 w4 s4 hp4 => ⟨by show 4 ≤ sizeLine; decide, fun t nt => ?_⟩⟩
      have sn := same_upd (o := .tup [.ref p1, .ref p2, .ref p3, .ref p4]) nt
      refine q1 [.ref p1, .ref p2, .ref p3, .ref p4] t _ ⟨(((s1.trans s2).trans s3).trans s4).trans (.of sn), upd_same, fun x hx => ?_⟩
      simp only [List.mem_cons, List.not_mem_nil, or_false] at hx
      rcases hx with rfl | rfl | rfl | rfl
      · exact ⟨p1, ns1, ts1, rfl, o1, by omega, (((w1.sx hp1 s2).sx hp2 s3).sx hp3 s4).keep sn⟩
      · exact ⟨p2, ns2, ts2, rfl, o2, by omega, ((w2.sx hp2 s3).sx hp3 s4).keep sn⟩
      · exact ⟨p3, ns3, ts3, rfl, o3, by omega, (w3.sx hp3 s4).keep sn⟩
      · exact ⟨p4, ns4, ts4, rfl, o4, by omega, w4.keep sn⟩
    · rintro xs t H1 i v σ' H' hx ⟨o1, o2, rfl, w1, w2, w3, s1⟩
      obtain ⟨p, ns, ts, rfl, own, h40, wat⟩ := w3 v (List.mem_of_getElem? hx)
      refine r_gname ?_
      refine rs_set ?_
      refine ⟨.ref p, rfl, p, ns, ts, rfl, own, wat.keep s1, fun H2 s2 => fun x dx nx ndx nxd => ?_⟩
      refine ⟨x, dx, ns, ts, rfl, own.good, upd_same, fun H3 wb s3 => ⟨rfl, ?_⟩⟩
      have s23 : Same H2 H3 := fun b o e => by
        have n1 := ne_of_none e nx
        have n2 := ne_of_none e ndx
        refine s3 _ _ n1 ?_
        rw [upd_ne n1, upd_ne n2]; exact e
      have s13 := (s1.trans s2).trans s23
      have wat3 := wat.keep s13
      have g := own.good.gr
      have ha := own.asc
      have e0 : decide (ts.length + (partsL ns ts).length = ns.length) = decide (PP ns ts (ns.length + 1) = []) := by
        rw [decide_eq_decide, parts_len g ha]
        exact wood_iff g
      have tpo := tame_po (ps := partsL ns ts) (decide (ts.length + (partsL ns ts).length = ns.length)) (fun part hp => ⟨Nat.le_trans (parts_ok g ha hp).1 (by omega), fun z hz => own.nm z ((parts_ok g ha hp).2 z hz)⟩) (Nat.le_trans (parts_few ns []) (by show 0 + _ ≤ _; omega))
      refine rs_no ?_
      refine ⟨.ref x, rfl, x, ns, ts, rfl, wb, by omega, fun pp H4 hpp s4 => ?_⟩
      refine ⟨.ref x, rfl, x, ns, ts, rfl, wb.keep s4, by omega, fun H5 s5 => ⟨by show 2 ≤ sizeLine; decide, fun t5 n5 => ?_⟩⟩
      have s6 := same_upd (o := .tup [.ref pp, .bl (decide (ts.length + (partsL ns ts).length = ns.length))]) n5
      refine ⟨.ref t5, poD (partsL ns ts) (decide (ts.length + (partsL ns ts).length = ns.length)), rfl, .inl (dp_po upd_same ((hpp.keep s5).keep s6)), tpo.sh, Nat.le_trans tpo.dp (by decide), tpo.len (by decide), ?_⟩
      have s36 := (s4.trans s5).trans s6
      generalize (upd H5 t5 (.tup [.ref pp, .bl (decide (ts.length + (partsL ns ts).length = ns.length))])) = H6 at s36 ⊢
      clear hpp s4 s5 n5 s6
      refine ⟨.ref p, rfl, p, ns, ts, rfl, own, wat3.keep s36, fun pl H7 hpl s7 => ?_⟩
      refine ⟨.ref p, rfl, p, ns, ts, rfl, own, (wat3.keep s36).keep s7, fun H8 s8 => ⟨by show 2 ≤ sizeLine; decide, fun t8 n8 => ?_⟩⟩
      have s9 := same_upd (o := .tup [.ref pl, .bl (decide (PP ns ts (ns.length + 1) = []))]) n8
      refine ⟨.ref t8, poD (partsL ns ts) (decide (ts.length + (partsL ns ts).length = ns.length)), rfl, .inl (by rw [e0]; exact dp_po upd_same ((hpl.keep s8).keep s9)), tpo.sh, Nat.le_trans tpo.dp (by decide), tpo.len (by decide), ?_⟩
      have s39 := ((s36.trans s7).trans s8).trans s9
      generalize (upd H8 t8 (.tup [.ref pl, .bl (decide (PP ns ts (ns.length + 1) = []))])) = H9 at s39 ⊢
      clear hpl s7 s8 n8 s9 s36
      refine ⟨rfl, false, congrArg V.bl (by simp), ?_⟩
      have inv : ∀ H', Same H9 H' → ∃ o1 o2, ([some (.ref a), some (.ref p), some (.ref x)] : L2.St) = [some (.ref a), o1, o2] ∧ SameX a H H1 ∧ H1 t = some (.tup xs) ∧ (∀ x ∈ xs, Drawn H1 x) ∧ Same H1 H' := fun H' sh => ⟨_, _, rfl, w1, w2, w3, (s13.trans s39).trans sh⟩
      obtain ⟨pl0, tl0, qs0, e1, e2, e3, e4⟩ := wat3.keep s39
      refine ⟨.ref p, rfl, p, [.ref pl0, .ref tl0], 0, .ref pl0, rfl, rfl, sqt_of e1, rfl, Nat.zero_le _, fun l nl => ⟨.list (ns.map PyData.str), .list [], .lst (sql_of ((same_upd nl) _ _ e2)) (strs_dp _), .lst (sql_of upd_same) .nil, strs_lay own.nm (fun x hx => hx), by decide +kernel, _, rfl, ite2 (fun c0 => ?_) (fun c0 => inv _ (same_upd nl))⟩⟩
      have sA := same_upd (o := .lst []) nl
      have hpos : 0 < ns.length := by
        cases ns with
        | nil => exact absurd c0 (by decide)
        | cons x l => exact Nat.succ_pos _
      have hb := best_in (ts := ts) g hpos
      have tb := tame_best (b := codeBest ns ts) (by have := hb.1; omega) (own.nm _ hb.2.1) (own.nm _ hb.2.2)
      refine ⟨.ref x, rfl, x, ns, ts, rfl, (wb.keep s39).keep sA, hpos, by omega, fun bt H10 hbt s10 => ⟨.ref bt, bestD (codeBest ns ts), rfl, .inl (dp_best hbt), tb.sh, Nat.le_trans tb.dp (by decide), tb.len (by decide), ?_⟩⟩
      refine ⟨.ref p, rfl, p, ns, ts, rfl, own, ((wat3.keep s39).keep sA).keep s10, fun v H11 hv s11 => ?_⟩
      rw [best_eq g ha hpos] at hv
      obtain ⟨bt2, rfl, hbt2⟩ := hv
      exact ⟨.ref bt2, bestD (codeBest ns ts), rfl, .inl (dp_best hbt2), tb.sh, Nat.le_trans tb.dp (by decide), tb.len (by decide), rfl, false, congrArg V.bl (by simp), inv _ ((sA.trans s10).trans s11)⟩
    · rintro xs t H1 σ' H' ⟨o1, o2, rfl, w1, w2, w3, s1⟩
      exact q H' (w1.trans (.of s1))
end
end Hw

set_option Elab.async false
set_option linter.all false
set_option maxRecDepth 100000
set_option maxHeartbeats 4000000
namespace Hw
open PySem L2 PyProof.Rows
section
variable {P : Program} {w : World} {K : PySem.W.Frag} {mg : Str → Option Value} {base : Heap}
theorem scLaw : FnScope ["script", "place"] ["script"] (defScope sLaw) := ⟨rfl, rfl, rfl, by decide +kernel, rfl, by decide +kernel, by decide +kernel⟩
theorem ok_law {f fP fC fR : Addr} {fd fdP fdC fdR : FuncData} {k : Nat} (F : Fun K "law" "law" sLaw f fd) (B3 : Blt3 mg)
    (GP : FnOk P w K mg base CX0 k fP fdP ["script", "place"] (spPot K)) (gP : mg "_law_pot" = some (.ref fP)) (kP : PySem.W.keepIn K (.ref fP) = true) (bP : Binds K fdP ["script", "place"] [])
    (GC : FnOk P w K mg base CX0 k fC fdC ["script", "most"] (spCells K)) (gC : mg "_law_cells" = some (.ref fC)) (kC : PySem.W.keepIn K (.ref fC) = true) (bC : Binds K fdC ["script", "most"] [])
    (GR : FnG P w K mg base CX0 k fR fdR ["pot"] spRight) (gR : mg "_law_right" = some (.ref fR)) (kR : PySem.W.keepIn K (.ref fR) = true) (bR : Binds K fdR ["pot"] []) :
    FnG P w K mg base CX0 (k + 1) f fd ["script"] (spLaw K) := by
  refine funG F scLaw (fun vs H Q E h => ?_) (fun cdv A outer s H vs Q E hg h => ?_)
  · obtain ⟨a, ns, rfl, _⟩ := h
    rfl
  · obtain ⟨a, ns, rfl, hS, hl, q⟩ := h
    have hr := hg.r
    refine ⟨_, pss_one (ps_ret (pe_callB (cr_all rfl) (by rfl) B3.all PyProof.Rows.boot_all (pa_cons (pe_lc (own := [("place", 1)]) (g := gName 1) (tt := tYes) rfl scLaw.nd
      (pi_list (pe_call GC hr (by rfl) gC kC bC .nil pass0 (pa_cons (pv 0) (pa_cons pe_int pa_nil)))) (blkOk_by (N := ["script", "place"]) (sc := defScope sLaw) (by decide +kernel))
      (fun _ _ _ _ _ => pg_name (i := 1) scLaw.nd rfl (Or.inl rfl)) (fun _ _ _ _ _ => pts_nil)
      (fun _ _ _ _ _ => pe_callG GR hg (by rfl) gR kR bR .nil pass0 (pa_cons (pe_call GP hr (by rfl) gP kP bP .nil pass0 (pa_cons (pv 0) (pa_cons (pv 1) pa_nil))) pa_nil))) pa_nil))), ?_⟩
    refine r_ret ?_
    refine ⟨.ref a, rfl, a, ns.map V.int, 3, rfl, hS, by rw [List.length_map]; exact hl, by decide, by decide, fun n p H1 n0 n3 s1 np hp => ?_⟩
    refine ⟨p, rfl, ⟨_, sql_of hp⟩, fun D hD => ?_⟩
    have lenr : ((List.range n).map fun i : Nat => V.int (i : Int)).length = n := by rw [List.length_map, List.length_range]
    have nDp : p ≠ D := ne_of_none hp hD
    refine lc_list (xs := (List.range n).map fun i : Nat => V.int (i : Int)) (fun i H' => Same H1 H' ∧ H' D = some (.lst (List.replicate i (.bl true)))) ⟨same_upd hD, upd_same⟩ (fun i H' _ h => sql_of (h.1 _ _ hp)) ?_ ?_
    · rintro i x H2 hx ⟨s2, eD⟩
      rw [List.getElem?_map] at hx
      have hi : i < n := by
        cases e : (List.range n)[i]? with
        | none => rw [e] at hx; cases hx
        | some y =>
          have z := (List.getElem?_eq_some_iff.mp e).1
          rwa [List.length_range] at z
      rw [List.getElem?_range hi] at hx
      obtain rfl : V.int (i : Int) = x := Option.some.inj hx
      refine ⟨rfl, ?_⟩
      refine r_yes ?_
      refine r_call (r_cons (r_call (r_cons (r_var (v := .ref a) rfl (r_cons (r_var (v := .int (i : Int)) rfl ⟨a, ns, i, rfl, (s1.trans s2).seq hS, hl, by omega, by omega, fun pp H3 s3 np3 hp3 => ?_⟩))))))
      refine ⟨pp, rfl, hp3, fun H4 s4 => ?_⟩
      have e4 : H4 D = some (.lst (List.replicate i (.bl true))) := s4 _ _ (ne_of_none eD np3) (s3 _ _ eD)
      refine ⟨_, e4, small1000 (by rw [List.length_replicate]; omega), fun b o e => ?_, ?_⟩
      · have nb : b ≠ D := ne_of_none e hD
        rw [upd_ne nb]
        exact s4 _ _ (ne_of_none (s2 _ _ e) np3) (s3 _ _ (s2 _ _ e))
      · rw [upd_same, ← List.replicate_succ']
    · rintro H2 ⟨s2, eD⟩
      rw [lenr] at eD
      refine ⟨D, List.replicate n true, rfl, sql_of (by rw [eD, List.map_replicate]), ?_⟩
      have e : (List.replicate n true).all id = true := by simp
      rw [e]
      exact q H2
end

theorem all_mk {P : Program} {w : World} {K : PySem.W.Frag} {h : Heap} {mg : Str → Option Value} {fa C f0 f1 f2 f3 f4 f5 f6 f7 f8 f9 f10 f11 f12 f13 f14 f15 f16 f17 f18 f19 f20 f21 f22 f23 f24 f25 f26 fm0 fm1 : Addr} (X : K.In h) (G : h.Ns mainGlobals mg) (hfa : mg "law" = some (.ref fa))
    {od0 an0 od1 an1 od2 an2 od3 an3 od4 an4 od5 an5 od6 an6 od7 an7 od8 an8 od9 an9 od10 an10 od11 an11 od12 an12 od13 an13 od14 an14 od15 an15 od16 an16 od17 an17 od18 an18 od19 an19 od20 an20 od21 an21 od22 an22 od23 an23 od24 an24 od25 an25 od26 an26 odm0 anm0 odm1 anm1 : Option Addr} {sl0 sl1 sl2 sl3 sl4 sl5 sl6 sl7 sl8 sl9 sl10 sl11 sl12 sl13 sl14 sl15 sl16 sl17 sl18 sl19 sl20 sl21 sl22 sl23 sl24 sl25 sl26 slm0 slm1 : Array (Option Value)} {oc0 kV0 dc0 pm0 cd0 ct0 oc1 kV1 dc1 pm1 cd1 ct1 oc2 kV2 dc2 pm2 cd2 ct2 oc3 kV3 dc3 pm3 cd3 ct3 oc4 kV4 dc4 pm4 cd4 ct4 oc5 kV5 dc5 pm5 cd5 ct5 oc6 kV6 dc6 pm6 cd6 ct6 oc7 kV7 dc7 pm7 cd7 ct7 oc8 kV8 dc8 pm8 cd8 ct8 oc9 kV9 dc9 pm9 cd9 ct9 oc10 kV10 dc10 pm10 cd10 ct10 oc11 kV11 dc11 pm11 cd11 ct11 oc12 kV12 dc12 pm12 cd12 ct12 oc13 kV13 dc13 pm13 cd13 ct13 oc14 kV14 dc14 pm14 cd14 ct14 oc15 kV15 dc15 pm15 cd15 ct15 oc16 kV16 dc16 pm16 cd16 ct16 oc17 kV17 dc17 pm17 cd17 ct17 oc18 kV18 dc18 pm18 cd18 ct18 oc19 kV19 dc19 pm19 cd19 ct19 oc20 kV20 dc20 pm20 cd20 ct20 oc21 kV21 dc21 pm21 cd21 ct21 oc22 kV22 dc22 pm22 cd22 ct22 oc23 kV23 dc23 pm23 cd23 ct23 oc24 kV24 dc24 pm24 cd24 ct24 oc25 kV25 dc25 pm25 cd25 ct25 oc26 kV26 dc26 pm26 cd26 ct26 ocm0 kVm0 dcm0 pmm0 cdm0 ctm0 ocm1 kVm1 dcm1 pmm1 cdm1 ctm1 : Value} {tL tM : Tok}
    (a0 : PySem.W.nsIn K mainGlobals "is_name" = some (some (.ref f0)))
    (l0 : K.lookup f0 = some ⟨oc0, od0, .func (PySem.W.fnOf "is_name" "is_name" (defArgs sIsName) (defBody sIsName) (defScope sIsName) .none kV0 dc0 pm0 an0 cd0 ct0), sl0⟩)
    (c0 : PySem.W.codeIn K cd0 "is_name" = true)
    (k0 : PySem.W.keepIn K (.ref f0) = true)
    (a1 : PySem.W.nsIn K mainGlobals "ascends" = some (some (.ref f1)))
    (l1 : K.lookup f1 = some ⟨oc1, od1, .func (PySem.W.fnOf "ascends" "ascends" (defArgs sAsc) (defBody sAsc) (defScope sAsc) .none kV1 dc1 pm1 an1 cd1 ct1), sl1⟩)
    (c1 : PySem.W.codeIn K cd1 "ascends" = true)
    (k1 : PySem.W.keepIn K (.ref f1) = true)
    (a2 : PySem.W.nsIn K mainGlobals "tied_by" = some (some (.ref f2)))
    (l2 : K.lookup f2 = some ⟨oc2, od2, .func (PySem.W.fnOf "tied_by" "tied_by" (defArgs sTied) (defBody sTied) (defScope sTied) .none kV2 dc2 pm2 an2 cd2 ct2), sl2⟩)
    (c2 : PySem.W.codeIn K cd2 "tied_by" = true)
    (k2 : PySem.W.keepIn K (.ref f2) = true)
    (a3 : PySem.W.nsIn K mainGlobals "far_along" = some (some (.ref f3)))
    (l3 : K.lookup f3 = some ⟨oc3, od3, .func (PySem.W.fnOf "far_along" "far_along" (defArgs sAlong) (defBody sAlong) (defScope sAlong) .none kV3 dc3 pm3 an3 cd3 ct3), sl3⟩)
    (c3 : PySem.W.codeIn K cd3 "far_along" = true)
    (k3 : PySem.W.keepIn K (.ref f3) = true)
    (a4 : PySem.W.nsIn K mainGlobals "read_web" = some (some (.ref f4)))
    (l4 : K.lookup f4 = some ⟨oc4, od4, .func (PySem.W.fnOf "read_web" "read_web" (defArgs sReadW) (defBody sReadW) (defScope sReadW) .none kV4 dc4 pm4 an4 cd4 ct4), sl4⟩)
    (c4 : PySem.W.codeIn K cd4 "read_web" = true)
    (k4 : PySem.W.keepIn K (.ref f4) = true)
    (a5 : PySem.W.nsIn K mainGlobals "read_ties" = some (some (.ref f5)))
    (l5 : K.lookup f5 = some ⟨oc5, od5, .func (PySem.W.fnOf "read_ties" "read_ties" (defArgs sReadT) (defBody sReadT) (defScope sReadT) .none kV5 dc5 pm5 an5 cd5 ct5), sl5⟩)
    (c5 : PySem.W.codeIn K cd5 "read_ties" = true)
    (k5 : PySem.W.keepIn K (.ref f5) = true)
    (a6 : PySem.W.nsIn K mainGlobals "are_places" = some (some (.ref f6)))
    (l6 : K.lookup f6 = some ⟨oc6, od6, .func (PySem.W.fnOf "are_places" "are_places" (defArgs sArePl) (defBody sArePl) (defScope sArePl) .none kV6 dc6 pm6 an6 cd6 ct6), sl6⟩)
    (c6 : PySem.W.codeIn K cd6 "are_places" = true)
    (k6 : PySem.W.keepIn K (.ref f6) = true)
    (a7 : PySem.W.nsIn K mainGlobals "is_tie" = some (some (.ref f7)))
    (l7 : K.lookup f7 = some ⟨oc7, od7, .func (PySem.W.fnOf "is_tie" "is_tie" (defArgs sIsTie) (defBody sIsTie) (defScope sIsTie) .none kV7 dc7 pm7 an7 cd7 ct7), sl7⟩)
    (c7 : PySem.W.codeIn K cd7 "is_tie" = true)
    (k7 : PySem.W.keepIn K (.ref f7) = true)
    (a8 : PySem.W.nsIn K mainGlobals "parts_of" = some (some (.ref f8)))
    (l8 : K.lookup f8 = some ⟨oc8, od8, .func (PySem.W.fnOf "parts_of" "parts_of" (defArgs sPartsOf) (defBody sPartsOf) (defScope sPartsOf) .none kV8 dc8 pm8 an8 cd8 ct8), sl8⟩)
    (c8 : PySem.W.codeIn K cd8 "parts_of" = true)
    (k8 : PySem.W.keepIn K (.ref f8) = true)
    (a9 : PySem.W.nsIn K mainGlobals "farthest" = some (some (.ref f9)))
    (l9 : K.lookup f9 = some ⟨oc9, od9, .func (PySem.W.fnOf "farthest" "farthest" (defArgs sFarthest) (defBody sFarthest) (defScope sFarthest) .none kV9 dc9 pm9 an9 cd9 ct9), sl9⟩)
    (c9 : PySem.W.codeIn K cd9 "farthest" = true)
    (k9 : PySem.W.keepIn K (.ref f9) = true)
    (a10 : PySem.W.nsIn K mainGlobals "is_wood" = some (some (.ref f10)))
    (l10 : K.lookup f10 = some ⟨oc10, od10, .func (PySem.W.fnOf "is_wood" "is_wood" (defArgs sIsWood) (defBody sIsWood) (defScope sIsWood) .none kV10 dc10 pm10 an10 cd10 ct10), sl10⟩)
    (c10 : PySem.W.codeIn K cd10 "is_wood" = true)
    (k10 : PySem.W.keepIn K (.ref f10) = true)
    (a11 : PySem.W.nsIn K mainGlobals "_law_pot" = some (some (.ref f11)))
    (l11 : K.lookup f11 = some ⟨oc11, od11, .func (PySem.W.fnOf "_law_pot" "_law_pot" (defArgs sPot) (defBody sPot) (defScope sPot) .none kV11 dc11 pm11 an11 cd11 ct11), sl11⟩)
    (c11 : PySem.W.codeIn K cd11 "_law_pot" = true)
    (k11 : PySem.W.keepIn K (.ref f11) = true)
    (a12 : PySem.W.nsIn K mainGlobals "_law_take" = some (some (.ref f12)))
    (l12 : K.lookup f12 = some ⟨oc12, od12, .func (PySem.W.fnOf "_law_take" "_law_take" (defArgs sTake) (defBody sTake) (defScope sTake) .none kV12 dc12 pm12 an12 cd12 ct12), sl12⟩)
    (c12 : PySem.W.codeIn K cd12 "_law_take" = true)
    (k12 : PySem.W.keepIn K (.ref f12) = true)
    (a13 : PySem.W.nsIn K mainGlobals "_law_of" = some (some (.ref f13)))
    (l13 : K.lookup f13 = some ⟨oc13, od13, .func (PySem.W.fnOf "_law_of" "_law_of" (defArgs sOf) (defBody sOf) (defScope sOf) .none kV13 dc13 pm13 an13 cd13 ct13), sl13⟩)
    (c13 : PySem.W.codeIn K cd13 "_law_of" = true)
    (k13 : PySem.W.keepIn K (.ref f13) = true)
    (a14 : PySem.W.nsIn K mainGlobals "_law_cells" = some (some (.ref f14)))
    (l14 : K.lookup f14 = some ⟨oc14, od14, .func (PySem.W.fnOf "_law_cells" "_law_cells" (defArgs sCells) (defBody sCells) (defScope sCells) .none kV14 dc14 pm14 an14 cd14 ct14), sl14⟩)
    (c14 : PySem.W.codeIn K cd14 "_law_cells" = true)
    (k14 : PySem.W.keepIn K (.ref f14) = true)
    (a15 : PySem.W.nsIn K mainGlobals "_law_names" = some (some (.ref f15)))
    (l15 : K.lookup f15 = some ⟨oc15, od15, .func (PySem.W.fnOf "_law_names" "_law_names" (defArgs sNames) (defBody sNames) (defScope sNames) .none kV15 dc15 pm15 an15 cd15 ct15), sl15⟩)
    (c15 : PySem.W.codeIn K cd15 "_law_names" = true)
    (k15 : PySem.W.keepIn K (.ref f15) = true)
    (a16 : PySem.W.nsIn K mainGlobals "_law_tie" = some (some (.ref f16)))
    (l16 : K.lookup f16 = some ⟨oc16, od16, .func (PySem.W.fnOf "_law_tie" "_law_tie" (defArgs sTie) (defBody sTie) (defScope sTie) .none kV16 dc16 pm16 an16 cd16 ct16), sl16⟩)
    (c16 : PySem.W.codeIn K cd16 "_law_tie" = true)
    (k16 : PySem.W.keepIn K (.ref f16) = true)
    (a17 : PySem.W.nsIn K mainGlobals "_law_web" = some (some (.ref f17)))
    (l17 : K.lookup f17 = some ⟨oc17, od17, .func (PySem.W.fnOf "_law_web" "_law_web" (defArgs sWeb) (defBody sWeb) (defScope sWeb) .none kV17 dc17 pm17 an17 cd17 ct17), sl17⟩)
    (c17 : PySem.W.codeIn K cd17 "_law_web" = true)
    (k17 : PySem.W.keepIn K (.ref f17) = true)
    (a18 : PySem.W.nsIn K mainGlobals "_law_web_text" = some (some (.ref f18)))
    (l18 : K.lookup f18 = some ⟨oc18, od18, .func (PySem.W.fnOf "_law_web_text" "_law_web_text" (defArgs sText) (defBody sText) (defScope sText) .none kV18 dc18 pm18 an18 cd18 ct18), sl18⟩)
    (c18 : PySem.W.codeIn K cd18 "_law_web_text" = true)
    (k18 : PySem.W.keepIn K (.ref f18) = true)
    (a19 : PySem.W.nsIn K mainGlobals "_law_near" = some (some (.ref f19)))
    (l19 : K.lookup f19 = some ⟨oc19, od19, .func (PySem.W.fnOf "_law_near" "_law_near" (defArgs sNear) (defBody sNear) (defScope sNear) .none kV19 dc19 pm19 an19 cd19 ct19), sl19⟩)
    (c19 : PySem.W.codeIn K cd19 "_law_near" = true)
    (k19 : PySem.W.keepIn K (.ref f19) = true)
    (a20 : PySem.W.nsIn K mainGlobals "_law_fars" = some (some (.ref f20)))
    (l20 : K.lookup f20 = some ⟨oc20, od20, .func (PySem.W.fnOf "_law_fars" "_law_fars" (defArgs sFars) (defBody sFars) (defScope sFars) .none kV20 dc20 pm20 an20 cd20 ct20), sl20⟩)
    (c20 : PySem.W.codeIn K cd20 "_law_fars" = true)
    (k20 : PySem.W.keepIn K (.ref f20) = true)
    (a21 : PySem.W.nsIn K mainGlobals "_law_parts" = some (some (.ref f21)))
    (l21 : K.lookup f21 = some ⟨oc21, od21, .func (PySem.W.fnOf "_law_parts" "_law_parts" (defArgs sLParts) (defBody sLParts) (defScope sLParts) .none kV21 dc21 pm21 an21 cd21 ct21), sl21⟩)
    (c21 : PySem.W.codeIn K cd21 "_law_parts" = true)
    (k21 : PySem.W.keepIn K (.ref f21) = true)
    (a22 : PySem.W.nsIn K mainGlobals "_law_farthest" = some (some (.ref f22)))
    (l22 : K.lookup f22 = some ⟨oc22, od22, .func (PySem.W.fnOf "_law_farthest" "_law_farthest" (defArgs sLFar) (defBody sLFar) (defScope sLFar) .none kV22 dc22 pm22 an22 cd22 ct22), sl22⟩)
    (c22 : PySem.W.codeIn K cd22 "_law_farthest" = true)
    (k22 : PySem.W.keepIn K (.ref f22) = true)
    (a23 : PySem.W.nsIn K mainGlobals "_law_is_wood" = some (some (.ref f23)))
    (l23 : K.lookup f23 = some ⟨oc23, od23, .func (PySem.W.fnOf "_law_is_wood" "_law_is_wood" (defArgs sLWood) (defBody sLWood) (defScope sLWood) .none kV23 dc23 pm23 an23 cd23 ct23), sl23⟩)
    (c23 : PySem.W.codeIn K cd23 "_law_is_wood" = true)
    (k23 : PySem.W.keepIn K (.ref f23) = true)
    (a24 : PySem.W.nsIn K mainGlobals "_law_two_webs" = some (some (.ref f24)))
    (l24 : K.lookup f24 = some ⟨oc24, od24, .func (PySem.W.fnOf "_law_two_webs" "_law_two_webs" (defArgs sTwo) (defBody sTwo) (defScope sTwo) .none kV24 dc24 pm24 an24 cd24 ct24), sl24⟩)
    (c24 : PySem.W.codeIn K cd24 "_law_two_webs" = true)
    (k24 : PySem.W.keepIn K (.ref f24) = true)
    (a25 : PySem.W.nsIn K mainGlobals "_law_right" = some (some (.ref f25)))
    (l25 : K.lookup f25 = some ⟨oc25, od25, .func (PySem.W.fnOf "_law_right" "_law_right" (defArgs sRight) (defBody sRight) (defScope sRight) .none kV25 dc25 pm25 an25 cd25 ct25), sl25⟩)
    (c25 : PySem.W.codeIn K cd25 "_law_right" = true)
    (k25 : PySem.W.keepIn K (.ref f25) = true)
    (a26 : PySem.W.nsIn K mainGlobals "law" = some (some (.ref f26)))
    (l26 : K.lookup f26 = some ⟨oc26, od26, .func (PySem.W.fnOf "law" "law" (defArgs sLaw) (defBody sLaw) (defScope sLaw) .none kV26 dc26 pm26 an26 cd26 ct26), sl26⟩)
    (c26 : PySem.W.codeIn K cd26 "law" = true)
    (k26 : PySem.W.keepIn K (.ref f26) = true)
    (aC : PySem.W.nsIn K mainGlobals "Web" = some (some (.ref C)))
    (am0 : PySem.W.findIn K (.ref C) "__init__" = some (some (.ref fm0)))
    (lm0 : K.lookup fm0 = some ⟨ocm0, odm0, .func (PySem.W.fnOf "__init__" "Web.__init__" (defArgs sInitW) (defBody sInitW) (defScope sInitW) .none kVm0 dcm0 pmm0 anm0 cdm0 ctm0), slm0⟩)
    (cm0 : PySem.W.codeIn K cdm0 "Web.__init__" = true)
    (km0 : PySem.W.keepIn K (.ref fm0) = true)
    (im0 : PySem.W.isFn K (.ref fm0) = true)
    (am1 : PySem.W.findIn K (.ref C) "far_by_place" = some (some (.ref fm1)))
    (lm1 : K.lookup fm1 = some ⟨ocm1, odm1, .func (PySem.W.fnOf "far_by_place" "Web.far_by_place" (defArgs sFarBy) (defBody sFarBy) (defScope sFarBy) .none kVm1 dcm1 pmm1 anm1 cdm1 ctm1), slm1⟩)
    (cm1 : PySem.W.codeIn K cdm1 "Web.far_by_place" = true)
    (km1 : PySem.W.keepIn K (.ref fm1) = true)
    (im1 : PySem.W.isFn K (.ref fm1) = true)
    (pg : PySem.W.plainGet K C Str.empty = true)
    (hd : PySem.W.hasDictIn K C = true)
    (po : PySem.W.plainOver K C = true)
    (sa : PySem.W.findIn K (.ref C) "__setattr__" = some (some (.builtin "object.__setattr__")))
    (n0 : PySem.W.findIn K (.ref C) "text" = some none)
    (n1 : PySem.W.findIn K (.ref C) "places" = some none)
    (n2 : PySem.W.findIn K (.ref C) "ties" = some none)
    (n3 : PySem.W.findIn K (.ref C) "_tied" = some none)
    (mk : PySem.W.makesIn K C = true)
    (kC : PySem.W.keepIn K (.ref C) = true)
    (gL : PySem.W.nsIn K mainGlobals "LONGEST_NAME" = some (some (.int 8 tL)))
    (gM : PySem.W.nsIn K mainGlobals "MOST_PLACES" = some (some (.int 200 tM)))
    (z0 : PySem.W.nsIn K mainGlobals "len" = some none)
    (z1 : PySem.W.nsIn K mainGlobals "sum" = some none)
    (z2 : PySem.W.nsIn K mainGlobals "int" = some none)
    (z3 : PySem.W.nsIn K mainGlobals "abs" = some none)
    (z4 : PySem.W.nsIn K mainGlobals "list" = some none)
    (z5 : PySem.W.nsIn K mainGlobals "range" = some none)
    (z6 : PySem.W.nsIn K mainGlobals "max" = some none)
    (z7 : PySem.W.nsIn K mainGlobals "min" = some none)
    (z8 : PySem.W.nsIn K mainGlobals "isinstance" = some none)
    (z9 : PySem.W.nsIn K mainGlobals "str" = some none)
    (z10 : PySem.W.nsIn K mainGlobals "tuple" = some none)
    (z11 : PySem.W.nsIn K mainGlobals "all" = some none)
    (z12 : PySem.W.nsIn K mainGlobals "zip" = some none)
    (z13 : PySem.W.nsIn K mainGlobals "enumerate" = some none)
    (z14 : PySem.W.nsIn K mainGlobals "dict" = some none)
    (z15 : PySem.W.nsIn K mainGlobals "sorted" = some none)
    (z16 : PySem.W.nsIn K mainGlobals "repr" = some none)
    : ∃ fd : FuncData, (∀ (s : Shared) (v : Value), BindsTo s fd ⟨[v], []⟩ [("script", v)]) ∧ ∀ base : Heap, K.In base → base.Ns mainGlobals mg → FnG P w K mg base CX0 8 fa fd ["script"] (spLaw K) := by
  have e := hfa.symm.trans (PySem.W.mg_of X G a26)
  cases e
  have B : Blt mg := ⟨PySem.W.mg_none_of X G z0, PySem.W.mg_none_of X G z1, PySem.W.mg_none_of X G z2, PySem.W.mg_none_of X G z3, PySem.W.mg_none_of X G z4, PySem.W.mg_none_of X G z5, PySem.W.mg_none_of X G z6, PySem.W.mg_none_of X G z7⟩
  have B3 : Blt3 mg := ⟨PySem.W.mg_none_of X G z8, PySem.W.mg_none_of X G z9, PySem.W.mg_none_of X G z10, PySem.W.mg_none_of X G z11, PySem.W.mg_none_of X G z12, PySem.W.mg_none_of X G z13, PySem.W.mg_none_of X G z14, PySem.W.mg_none_of X G z15, ⟨_, PySem.W.mg_of X G gL⟩, ⟨_, PySem.W.mg_of X G gM⟩⟩
  have T : TxtW K mg C := ⟨⟨pg, hd, po, sa⟩, n0, n1, n2, n3, PySem.W.mg_of X G aC⟩
  have M : Mk K C fm0 := ⟨mk, am0, im0, kC⟩
  have M1 : Meth K C "far_by_place" fm1 := ⟨am1, im1, km1⟩
  have F0 := fun_mk (st := sIsName) l0 c0 k0
  have b0 := F0.binds (ps := ["value"]) fun _ _ _ _ _ _ us hl => match us, hl with | [_], _ => rfl
  have F1 := fun_mk (st := sAsc) l1 c1 k1
  have b1 := F1.binds (ps := ["values"]) fun _ _ _ _ _ _ us hl => match us, hl with | [_], _ => rfl
  have F2 := fun_mk (st := sTied) l2 c2 k2
  have b2 := F2.binds (ps := ["places", "ties"]) fun _ _ _ _ _ _ us hl => match us, hl with | [_, _], _ => rfl
  have F3 := fun_mk (st := sAlong) l3 c3 k3
  have b3 := F3.binds (ps := ["tied", "place"]) fun _ _ _ _ _ _ us hl => match us, hl with | [_, _], _ => rfl
  have F4 := fun_mk (st := sReadW) l4 c4 k4
  have b4 := F4.binds (ps := ["text"]) fun _ _ _ _ _ _ us hl => match us, hl with | [_], _ => rfl
  have F5 := fun_mk (st := sReadT) l5 c5 k5
  have b5 := F5.binds (ps := ["lines", "places"]) fun _ _ _ _ _ _ us hl => match us, hl with | [_, _], _ => rfl
  have F6 := fun_mk (st := sArePl) l6 c6 k6
  have b6 := F6.binds (ps := ["value"]) fun _ _ _ _ _ _ us hl => match us, hl with | [_], _ => rfl
  have F7 := fun_mk (st := sIsTie) l7 c7 k7
  have b7 := F7.binds (ps := ["value", "known"]) fun _ _ _ _ _ _ us hl => match us, hl with | [_, _], _ => rfl
  have F8 := fun_mk (st := sPartsOf) l8 c8 k8
  have b8 := F8.binds (ps := ["web"]) fun _ _ _ _ _ _ us hl => match us, hl with | [_], _ => rfl
  have F9 := fun_mk (st := sFarthest) l9 c9 k9
  have b9 := F9.binds (ps := ["web"]) fun _ _ _ _ _ _ us hl => match us, hl with | [_], _ => rfl
  have F10 := fun_mk (st := sIsWood) l10 c10 k10
  have b10 := F10.binds (ps := ["web"]) fun _ _ _ _ _ _ us hl => match us, hl with | [_], _ => rfl
  have F11 := fun_mk (st := sPot) l11 c11 k11
  have b11 := F11.binds (ps := ["script", "place"]) fun _ _ _ _ _ _ us hl => match us, hl with | [_, _], _ => rfl
  have F12 := fun_mk (st := sTake) l12 c12 k12
  have b12 := F12.binds (ps := ["pot", "upto"]) fun _ _ _ _ _ _ us hl => match us, hl with | [_, _], _ => rfl
  have F13 := fun_mk (st := sOf) l13 c13 k13
  have b13 := F13.binds (ps := ["pot", "some"]) fun _ _ _ _ _ _ us hl => match us, hl with | [_, _], _ => rfl
  have F14 := fun_mk (st := sCells) l14 c14 k14
  have b14 := F14.binds (ps := ["script", "most"]) fun _ _ _ _ _ _ us hl => match us, hl with | [_, _], _ => rfl
  have F15 := fun_mk (st := sNames) l15 c15 k15
  have b15 := F15.binds (ps := ["pot", "many"]) fun _ _ _ _ _ _ us hl => match us, hl with | [_, _], _ => rfl
  have F16 := fun_mk (st := sTie) l16 c16 k16
  have b16 := F16.binds (ps := ["one", "other"]) fun _ _ _ _ _ _ us hl => match us, hl with | [_, _], _ => rfl
  have F17 := fun_mk (st := sWeb) l17 c17 k17
  have b17 := F17.binds (ps := ["pot", "most"]) fun _ _ _ _ _ _ us hl => match us, hl with | [_, _], _ => rfl
  have F18 := fun_mk (st := sText) l18 c18 k18
  have b18 := F18.binds (ps := ["own"]) fun _ _ _ _ _ _ us hl => match us, hl with | [_], _ => rfl
  have F19 := fun_mk (st := sNear) l19 c19 k19
  have b19 := F19.binds (ps := ["places", "ties"]) fun _ _ _ _ _ _ us hl => match us, hl with | [_, _], _ => rfl
  have F20 := fun_mk (st := sFars) l20 c20 k20
  have b20 := F20.binds (ps := ["near", "name"]) fun _ _ _ _ _ _ us hl => match us, hl with | [_, _], _ => rfl
  have F21 := fun_mk (st := sLParts) l21 c21 k21
  have b21 := F21.binds (ps := ["own"]) fun _ _ _ _ _ _ us hl => match us, hl with | [_], _ => rfl
  have F22 := fun_mk (st := sLFar) l22 c22 k22
  have b22 := F22.binds (ps := ["own"]) fun _ _ _ _ _ _ us hl => match us, hl with | [_], _ => rfl
  have F23 := fun_mk (st := sLWood) l23 c23 k23
  have b23 := F23.binds (ps := ["own"]) fun _ _ _ _ _ _ us hl => match us, hl with | [_], _ => rfl
  have F24 := fun_mk (st := sTwo) l24 c24 k24
  have b24 := F24.binds (ps := ["pot", "most"]) fun _ _ _ _ _ _ us hl => match us, hl with | [_, _], _ => rfl
  have F25 := fun_mk (st := sRight) l25 c25 k25
  have b25 := F25.binds (ps := ["pot"]) fun _ _ _ _ _ _ us hl => match us, hl with | [_], _ => rfl
  have F26 := fun_mk (st := sLaw) l26 c26 k26
  have b26 := F26.binds (ps := ["script"]) fun _ _ _ _ _ _ us hl => match us, hl with | [_], _ => rfl
  have Fm0 := fun_mk (st := sInitW) lm0 cm0 km0
  have bm0 := Fm0.binds (ps := ["self", "text"]) fun _ _ _ _ _ _ us hl => match us, hl with | [_, _], _ => rfl
  have Fm1 := fun_mk (st := sFarBy) lm1 cm1 km1
  have bm1 := Fm1.binds (ps := ["self", "place"]) fun _ _ _ _ _ _ us hl => match us, hl with | [_, _], _ => rfl
  refine ⟨PySem.W.fnOf "law" "law" (defArgs sLaw) (defBody sLaw) (defScope sLaw) .none kV26 dc26 pm26 an26 cd26 ct26, fun s v => .of_eq rfl, fun base _ _ => ?_⟩
  have G0 : FnOk P w K mg base CX0 1 f0 _ ["value"] spIsName := ok_isname F0 B B3
  have G1 : FnOk P w K mg base CX0 1 f1 _ ["values"] (spAsc K) := ok_asc F1 B3
  have G7 : FnOk P w K mg base CX0 1 f7 _ ["value", "known"] spIsTie := ok_istie F7 B B3
  have G2 : FnOk P w K mg base CX0 1 f2 _ ["places", "ties"] spTied := ok_tied F2
  have G6 : FnOk P w K mg base CX0 2 f6 _ ["value"] spArePl := ok_arepl F6 B B3 G0 (PySem.W.mg_of X G a0) k0 b0 G1 (PySem.W.mg_of X G a1) k1 b1
  have G5 : FnOk P w K mg base CX0 2 f5 _ ["lines", "places"] spReadT := ok_readt F5 B B3 G7 (PySem.W.mg_of X G a7) k7 b7
  have G4 : FnOk P w K mg base CX0 3 f4 _ ["text"] spReadW := ok_readw F4 B B3 G6 (PySem.W.mg_of X G a6) k6 b6 G5 (PySem.W.mg_of X G a5) k5 b5
  have GI : FnOk P w K mg base CX0 4 fm0 _ ["self", "text"] (spInitW C) := ok_initW Fm0 T G4 (PySem.W.mg_of X G a4) k4 b4 (G2.mono (show 1 ≤ 3 by decide)) (PySem.W.mg_of X G a2) k2 b2
  have G3 : FnOk P w K mg base CX0 1 f3 _ ["tied", "place"] spFars := ok_along F3 B
  have GB : FnOk P w K mg base CX0 2 fm1 _ ["self", "place"] (spFarBy C) := ok_farby Fm1 T G3 (PySem.W.mg_of X G a3) k3 b3
  have G8 : FnOk P w K mg base CX0 3 f8 _ ["web"] (spPartsOf C) := ok_partsof F8 T B3 M1 GB bm1
  have G9 : FnOk P w K mg base CX0 3 f9 _ ["web"] (spFarthest C) := ok_farthest F9 T B3 M1 GB bm1
  have G10 : FnOk P w K mg base CX0 4 f10 _ ["web"] (spIsWood C) := ok_iswood F10 T B G8 (PySem.W.mg_of X G a8) k8 b8
  have G11 : FnOk P w K mg base CX0 1 f11 _ ["script", "place"] (spPot K) := ok_pot F11 B
  have G12 : FnOk P w K mg base CX0 1 f12 _ ["pot", "upto"] spTake := ok_take F12 B
  have G13 : FnOk P w K mg base CX0 2 f13 _ ["pot", "some"] (spOf2 K) := ok_of2 F13 B G12 (PySem.W.mg_of X G a12) k12 b12
  have G14 : FnOk P w K mg base CX0 1 f14 _ ["script", "most"] (spCells K) := ok_cells F14 B
  have G15 : FnOk P w K mg base CX0 3 f15 _ ["pot", "many"] spNames := ok_names F15 B (G12.mono (show 1 ≤ 2 by decide)) (PySem.W.mg_of X G a12) k12 b12 G13 (PySem.W.mg_of X G a13) k13 b13
  have G16 : FnOk P w K mg base CX0 1 f16 _ ["one", "other"] spTie := ok_tie F16 B
  have G17 : FnOk P w K mg base CX0 4 f17 _ ["pot", "most"] spWeb := ok_web F17 B B3.sorted (G12.mono (show 1 ≤ 3 by decide)) (PySem.W.mg_of X G a12) k12 b12 (G13.mono (show 2 ≤ 3 by decide)) (PySem.W.mg_of X G a13) k13 b13 G15 (PySem.W.mg_of X G a15) k15 b15 (G16.mono (show 1 ≤ 3 by decide)) (PySem.W.mg_of X G a16) k16 b16
  have G18 : FnOk P w K mg base CX0 1 f18 _ ["own"] spText := ok_text F18 B
  have G19 : FnOk P w K mg base CX0 1 f19 _ ["places", "ties"] spNear := ok_near F19 B3.dict
  have G20 : FnOk P w K mg base CX0 1 f20 _ ["near", "name"] spFars := ok_fars F20
  have G21 : FnOk P w K mg base CX0 2 f21 _ ["own"] spLParts := ok_lparts F21 B B3 G19 (PySem.W.mg_of X G a19) k19 b19 G20 (PySem.W.mg_of X G a20) k20 b20
  have G22 : FnOk P w K mg base CX0 2 f22 _ ["own"] spLFar := ok_lfar F22 B G19 (PySem.W.mg_of X G a19) k19 b19 G20 (PySem.W.mg_of X G a20) k20 b20
  have G23 : FnOk P w K mg base CX0 2 f23 _ ["own"] spLWood := ok_lwood F23 B G19 (PySem.W.mg_of X G a19) k19 b19
  have G24 : FnOk P w K mg base CX0 5 f24 _ ["pot", "most"] spTwo := ok_two F24 B B3.sorted B3.zip (G12.mono (show 1 ≤ 4 by decide)) (PySem.W.mg_of X G a12) k12 b12 G17 (PySem.W.mg_of X G a17) k17 b17
  have kb8 : KBinds K (PySem.W.fnOf "parts_of" "parts_of" (defArgs sPartsOf) (defBody sPartsOf) (defScope sPartsOf) .none kV8 dc8 pm8 an8 cd8 ct8) ["web"] ["web"] gRev gVRev := kb1 rfl fun s a => .of_eq rfl
  have kb10 : KBinds K (PySem.W.fnOf "is_wood" "is_wood" (defArgs sIsWood) (defBody sIsWood) (defScope sIsWood) .none kV10 dc10 pm10 an10 cd10 ct10) ["web"] ["web"] gRev gVRev := kb1 rfl fun s a => .of_eq rfl
  have kb9 : KBinds K (PySem.W.fnOf "farthest" "farthest" (defArgs sFarthest) (defBody sFarthest) (defScope sFarthest) .none kV9 dc9 pm9 an9 cd9 ct9) ["web"] ["web"] gRev gVRev := kb1 rfl fun s a => .of_eq rfl
  have G25 : FnG P w K mg base CX0 7 f25 _ ["pot"] spRight := ok_right (j := 4) (show 4 + 1 ≤ 6 by decide) F25 T M (PySem.W.mg_none_of X G z16) (G17.mono (show 4 ≤ 6 by decide)) (PySem.W.mg_of X G a17) k17 b17 (G24.mono (show 5 ≤ 6 by decide)) (PySem.W.mg_of X G a24) k24 b24 (G18.mono (show 1 ≤ 6 by decide)) (PySem.W.mg_of X G a18) k18 b18 GI bm0 (G8.mono (show 3 ≤ 6 by decide)) (PySem.W.mg_of X G a8) k8 kb8 (G10.mono (show 4 ≤ 6 by decide)) (PySem.W.mg_of X G a10) k10 kb10 (G9.mono (show 3 ≤ 6 by decide)) (PySem.W.mg_of X G a9) k9 kb9 (G21.mono (show 2 ≤ 6 by decide)) (PySem.W.mg_of X G a21) k21 b21 (G23.mono (show 2 ≤ 6 by decide)) (PySem.W.mg_of X G a23) k23 b23 (G22.mono (show 2 ≤ 6 by decide)) (PySem.W.mg_of X G a22) k22 b22
  exact ok_law F26 B3 (G11.mono (show 1 ≤ 7 by decide)) (PySem.W.mg_of X G a11) k11 b11 (G14.mono (show 1 ≤ 7 by decide)) (PySem.W.mg_of X G a14) k14 b14 G25 (PySem.W.mg_of X G a25) k25 b25
end Hw

set_option Elab.async false
open PySem PySem.W PyProof.Rows
set_option maxRecDepth 100000 in
set_option maxHeartbeats 0 in
theorem PySem.Challenge.cw_healedwebs_k03_whole_parts_and_farthest_holds : PySem.Challenge.rw_healedwebs_k03_whole_parts_and_farthest.Holds := by
  w_on; o_law; k_head; (case hw => w_witness2)
  k_fill
  refine Hw.walkG (l := PySem.Challenge.rw_healedwebs_k03_whole_parts_and_farthest) (n := 63) (k := 8) (x := "script") (sp := fun w => Hw.spLaw _) rfl (by decide) rfl ⟨rfl, by decide, by decide⟩ (fun w h Y => PySem.W.kIn_of Y) ?F (fun _ _ a ns hl _ hS => ⟨a, ns, rfl, hS, hl, fun _ => rfl⟩)
  case F =>
    intro w mg fa h KX G hmg
    refine' Hw.all_mk KX G hmg ?q_a0 ?q_l0 ?q_c0 ?q_k0 ?q_a1 ?q_l1 ?q_c1 ?q_k1 ?q_a2 ?q_l2 ?q_c2 ?q_k2 ?q_a3 ?q_l3 ?q_c3 ?q_k3 ?q_a4 ?q_l4 ?q_c4 ?q_k4 ?q_a5 ?q_l5 ?q_c5 ?q_k5 ?q_a6 ?q_l6 ?q_c6 ?q_k6 ?q_a7 ?q_l7 ?q_c7 ?q_k7 ?q_a8 ?q_l8 ?q_c8 ?q_k8 ?q_a9 ?q_l9 ?q_c9 ?q_k9 ?q_a10 ?q_l10 ?q_c10 ?q_k10 ?q_a11 ?q_l11 ?q_c11 ?q_k11 ?q_a12 ?q_l12 ?q_c12 ?q_k12 ?q_a13 ?q_l13 ?q_c13 ?q_k13 ?q_a14 ?q_l14 ?q_c14 ?q_k14 ?q_a15 ?q_l15 ?q_c15 ?q_k15 ?q_a16 ?q_l16 ?q_c16 ?q_k16 ?q_a17 ?q_l17 ?q_c17 ?q_k17 ?q_a18 ?q_l18 ?q_c18 ?q_k18 ?q_a19 ?q_l19 ?q_c19 ?q_k19 ?q_a20 ?q_l20 ?q_c20 ?q_k20 ?q_a21 ?q_l21 ?q_c21 ?q_k21 ?q_a22 ?q_l22 ?q_c22 ?q_k22 ?q_a23 ?q_l23 ?q_c23 ?q_k23 ?q_a24 ?q_l24 ?q_c24 ?q_k24 ?q_a25 ?q_l25 ?q_c25 ?q_k25 ?q_a26 ?q_l26 ?q_c26 ?q_k26 ?q_aC ?q_am0 ?q_lm0 ?q_cm0 ?q_km0 ?q_im0 ?q_am1 ?q_lm1 ?q_cm1 ?q_km1 ?q_im1 ?q_pg ?q_hd ?q_po ?q_sa ?q_n0 ?q_n1 ?q_n2 ?q_n3 ?q_mk ?q_kC ?q_gL ?q_gM ?q_z0 ?q_z1 ?q_z2 ?q_z3 ?q_z4 ?q_z5 ?q_z6 ?q_z7 ?q_z8 ?q_z9 ?q_z10 ?q_z11 ?q_z12 ?q_z13 ?q_z14 ?q_z15 ?q_z16
    (case q_a0 => k_is)
    (case q_a1 => k_is)
    (case q_a2 => k_is)
    (case q_a3 => k_is)
    (case q_a4 => k_is)
    (case q_a5 => k_is)
    (case q_a6 => k_is)
    (case q_a7 => k_is)
    (case q_a8 => k_is)
    (case q_a9 => k_is)
    (case q_a10 => k_is)
    (case q_a11 => k_is)
    (case q_a12 => k_is)
    (case q_a13 => k_is)
    (case q_a14 => k_is)
    (case q_a15 => k_is)
    (case q_a16 => k_is)
    (case q_a17 => k_is)
    (case q_a18 => k_is)
    (case q_a19 => k_is)
    (case q_a20 => k_is)
    (case q_a21 => k_is)
    (case q_a22 => k_is)
    (case q_a23 => k_is)
    (case q_a24 => k_is)
    (case q_a25 => k_is)
    (case q_a26 => k_is)
    (case q_aC => k_is)
    (case q_am0 => k_is)
    (case q_am1 => k_is)
    (case q_l0 => k_is)
    (case q_c0 => k_is)
    (case q_k0 => k_is)
    (case q_l1 => k_is)
    (case q_c1 => k_is)
    (case q_k1 => k_is)
    (case q_l2 => k_is)
    (case q_c2 => k_is)
    (case q_k2 => k_is)
    (case q_l3 => k_is)
    (case q_c3 => k_is)
    (case q_k3 => k_is)
    (case q_l4 => k_is)
    (case q_c4 => k_is)
    (case q_k4 => k_is)
    (case q_l5 => k_is)
    (case q_c5 => k_is)
    (case q_k5 => k_is)
    (case q_l6 => k_is)
    (case q_c6 => k_is)
    (case q_k6 => k_is)
    (case q_l7 => k_is)
    (case q_c7 => k_is)
    (case q_k7 => k_is)
    (case q_l8 => k_is)
    (case q_c8 => k_is)
    (case q_k8 => k_is)
    (case q_l9 => k_is)
    (case q_c9 => k_is)
    (case q_k9 => k_is)
    (case q_l10 => k_is)
    (case q_c10 => k_is)
    (case q_k10 => k_is)
    (case q_l11 => k_is)
    (case q_c11 => k_is)
    (case q_k11 => k_is)
    (case q_l12 => k_is)
    (case q_c12 => k_is)
    (case q_k12 => k_is)
    (case q_l13 => k_is)
    (case q_c13 => k_is)
    (case q_k13 => k_is)
    (case q_l14 => k_is)
    (case q_c14 => k_is)
    (case q_k14 => k_is)
    (case q_l15 => k_is)
    (case q_c15 => k_is)
    (case q_k15 => k_is)
    (case q_l16 => k_is)
    (case q_c16 => k_is)
    (case q_k16 => k_is)
    (case q_l17 => k_is)
    (case q_c17 => k_is)
    (case q_k17 => k_is)
    (case q_l18 => k_is)
    (case q_c18 => k_is)
    (case q_k18 => k_is)
    (case q_l19 => k_is)
    (case q_c19 => k_is)
    (case q_k19 => k_is)
    (case q_l20 => k_is)
    (case q_c20 => k_is)
    (case q_k20 => k_is)
    (case q_l21 => k_is)
    (case q_c21 => k_is)
    (case q_k21 => k_is)
    (case q_l22 => k_is)
    (case q_c22 => k_is)
    (case q_k22 => k_is)
    (case q_l23 => k_is)
    (case q_c23 => k_is)
    (case q_k23 => k_is)
    (case q_l24 => k_is)
    (case q_c24 => k_is)
    (case q_k24 => k_is)
    (case q_l25 => k_is)
    (case q_c25 => k_is)
    (case q_k25 => k_is)
    (case q_l26 => k_is)
    (case q_c26 => k_is)
    (case q_k26 => k_is)
    (case q_lm0 => k_is)
    (case q_cm0 => k_is)
    (case q_km0 => k_is)
    (case q_im0 => k_is)
    (case q_lm1 => k_is)
    (case q_cm1 => k_is)
    (case q_km1 => k_is)
    (case q_im1 => k_is)
    (case q_pg => k_is)
    (case q_hd => k_is)
    (case q_po => k_is)
    (case q_sa => k_is)
    (case q_n0 => k_is)
    (case q_n1 => k_is)
    (case q_n2 => k_is)
    (case q_n3 => k_is)
    (case q_mk => k_is)
    (case q_kC => k_is)
    (case q_gL => k_is)
    (case q_gM => k_is)
    (case q_z0 => k_is)
    (case q_z1 => k_is)
    (case q_z2 => k_is)
    (case q_z3 => k_is)
    (case q_z4 => k_is)
    (case q_z5 => k_is)
    (case q_z6 => k_is)
    (case q_z7 => k_is)
    (case q_z8 => k_is)
    (case q_z9 => k_is)
    (case q_z10 => k_is)
    (case q_z11 => k_is)
    (case q_z12 => k_is)
    (case q_z13 => k_is)
    (case q_z14 => k_is)
    (case q_z15 => k_is)
    (case q_z16 => k_is)
