import PyProof.Rows.All
import Wide.All
import OpenK.AllK
import Wide.FinOn
import HandS.ForMost
import HandS.Evl
import HandS.Conv
import KE.KExcIs
import HandS.ExcInit
import HandS.ExcField
import HandS.IsInst
import HandS.ForExc
import HandS.DictComp
import HandS.SetFor
import HandS.Flow
import HandS.Walk
import PySem.Challenge.RW_healedwebs_k51_errors_keep_any_value
set_option Elab.async false
set_option linter.all false
set_option maxRecDepth 100000
set_option maxHeartbeats 2000000
namespace Hw
open PySem L2 PyProof.Rows

/-! generic: powers of great ints, heaps but one place -/
def CPowW (i j : Int) : Prop := 0 ≤ j ∧ (Builtin.Int.intBits i : Int) * j ≤ 2 ^ 27
theorem op_powW {X : Cx} : OpR X (binaryOp .Pow) (rI CPowW fun i j => .int (i ^ j.toNat)) :=
  opI fun _ _ _ _ _ _ _ hc q => pow_int hc.1 hc.2 q
/-- all that is tracked but at a stays -/
def SameX (a : Addr) (H H' : Hp) : Prop := ∀ b o, b ≠ a → H b = some o → H' b = some o
theorem SameX.refl (a : Addr) (H : Hp) : SameX a H H := fun _ _ _ h => h
theorem SameX.trans {a : Addr} {H H1 H2 : Hp} (x : SameX a H H1) (y : SameX a H1 H2) : SameX a H H2 := fun b o hb h => y b o hb (x b o hb h)
theorem SameX.of {a : Addr} {H H' : Hp} (s : Same H H') : SameX a H H' := fun b o _ h => s b o h
theorem SameX.put {a : Addr} {H H' : Hp} {o : HO} (s : SameX a H H') : SameX a H (upd H' a o) := fun b u hb h => by
  rw [upd_ne hb]; exact s b u hb h
theorem SameX.free {a b : Addr} {H H' : Hp} (s : SameX a H H') (ha : H' a ≠ none) (h : H' b = none) : H b = none := by
  cases q : H b with
  | none => rfl
  | some o =>
    have hb : b ≠ a := fun e => ha (e ▸ h)
    rw [s b o hb q] at h; cases h
theorem same_upd {H : Hp} {p : Addr} {o : HO} (h : H p = none) : Same H (upd H p o) := fun b x e => by
  rw [upd_ne (ne_of_none e h)]; exact e
theorem sql_of {K : PySem.W.Frag} {H : Hp} {a : Addr} {xs : List V} (h : H a = some (.lst xs)) : SqL K H a xs := .inl (.inl h)
theorem sqt_of {K : PySem.W.Frag} {H : Hp} {a : Addr} {xs : List V} (h : H a = some (.tup xs)) : SqT K H a xs := .inl (.inl h)

/-! a pot: three ints, the third at most N -/
structure Pot (H : Hp) (a : Addr) (N : Nat) : Prop where
  ex : ∃ x y z : Int, H a = some (.lst [.int x, .int y, .int z]) ∧ 0 ≤ x ∧ 0 ≤ y ∧ y < 2 ^ 61 ∧ 0 ≤ z ∧ z ≤ N
theorem Pot.mono {H : Hp} {a : Addr} {N M : Nat} (p : Pot H a N) (h : N ≤ M) : Pot H a M := by
  obtain ⟨x, y, z, e, h1, h2, h3, h4, h5⟩ := p.ex
  exact ⟨x, y, z, e, h1, h2, h3, h4, by omega⟩
theorem Pot.same {H H' : Hp} {a : Addr} {N : Nat} (p : Pot H a N) (s : Same H H') : Pot H' a N := by
  obtain ⟨x, y, z, e, h⟩ := p.ex
  exact ⟨x, y, z, s _ _ e, h⟩
theorem Pot.some {H : Hp} {a : Addr} {N : Nat} (p : Pot H a N) : H a ≠ none := by
  obtain ⟨x, y, z, e, _⟩ := p.ex
  rw [e]; exact fun q => nomatch q
/-- what a place of the script is worth to a draw: any int -/
def spPot (K : PySem.W.Frag) : Sp := fun vs H Q _ => ∃ (a : Addr) (ns : List Int) (i : Int), vs = [.ref a, .int i] ∧ SqL K H a (ns.map V.int) ∧ ns.length ≤ 63 ∧ 0 ≤ i ∧ i < 1000 ∧
  ∀ p H', Same H H' → H p = none → Pot H' p 0 → Q (.ref p) H'
/-- a draw below u -/
def spTake : Sp := fun vs H Q _ => ∃ (a : Addr) (u : Int) (N : Nat), vs = [.ref a, .int u] ∧ Pot H a N ∧ N < 1000000000 ∧ 0 < u ∧ u < 1000000000 ∧
  ∀ r H', 0 ≤ r → r < u → SameX a H H' → Pot H' a (N + 1) → Q (.int r) H'
/-- one of the items of a list -/
def spOf (K : PySem.W.Frag) : Sp := fun vs H Q _ => ∃ (a b : Addr) (xs : List V) (N : Nat), vs = [.ref a, .ref b] ∧ Pot H a N ∧ N < 1000000000 ∧ SqL K H b xs ∧ a ≠ b ∧ 0 < xs.length ∧ xs.length < 1000000000 ∧
  ∀ (i : Nat) v H', xs[i]? = some v → SameX a H H' → Pot H' a (N + 1) → Q v H'
/-- the places of the script that are looked at -/
def spCells (K : PySem.W.Frag) : Sp := fun vs H Q _ => ∃ (a : Addr) (xs : List V) (m : Int), vs = [.ref a, .int m] ∧ SqL K H a xs ∧ xs.length ≤ 63 ∧ 0 < m ∧ m < 1000 ∧
  ∀ (n : Nat) p H', 0 < n → (n : Int) ≤ m → Same H H' → H p = none → H' p = some (.lst ((List.range n).map fun i : Nat => V.int (i : Int))) → Q (.ref p) H'
theorem bits_nat {i : Int} {n : Nat} (h : i.natAbs < 2 ^ n) : Builtin.Int.intBits i ≤ n := intBits_le h
end Hw

set_option Elab.async false
set_option linter.all false
set_option maxRecDepth 100000
set_option maxHeartbeats 4000000
namespace Hw
open PySem L2 PyProof.Rows
def topS (i : Nat) : Stmt := PySem.Challenge.pw_healedwebs_k51_errors_keep_any_value.main.body.getD i (.Pass ⟨0, 0, 0, 0⟩)
abbrev sPot : Stmt := topS 29
abbrev sTake : Stmt := topS 30
abbrev sOf : Stmt := topS 31
abbrev sCells : Stmt := topS 32
section
variable {P : Program} {w : World} {K : PySem.W.Frag} {mg : Str → Option Value} {base : Heap}
theorem scPot : FnScope ["script", "place", "cell", "own", "small"] ["script", "place"] (defScope sPot) := ⟨rfl, rfl, rfl, by decide +kernel, rfl, by decide +kernel, by decide +kernel⟩
theorem scTake : FnScope ["pot", "upto", "digit", "prime", "blend"] ["pot", "upto"] (defScope sTake) := ⟨rfl, rfl, rfl, by decide +kernel, rfl, by decide +kernel, by decide +kernel⟩
theorem scOf : FnScope ["pot", "some"] ["pot", "some"] (defScope sOf) := ⟨rfl, rfl, rfl, by decide +kernel, rfl, by decide +kernel, by decide +kernel⟩
theorem scCells : FnScope ["script", "most"] ["script", "most"] (defScope sCells) := ⟨rfl, rfl, rfl, by decide +kernel, rfl, by decide +kernel, by decide +kernel⟩
theorem b01 (b : Prop) [Decidable b] : -(2 ^ 64) < (if b then (1 : Int) else 0) ∧ (if b then (1 : Int) else 0) < 2 ^ 64 := by
  split <;> exact ⟨by decide, by decide⟩
/-- names of the built-ins -/
structure Blt (mg : Str → Option Value) : Prop where
  len : mg "len" = none
  sum : mg "sum" = none
  int : mg "int" = none
  abs : mg "abs" = none
  list : mg "list" = none
  range : mg "range" = none
  max : mg "max" = none
  min : mg "min" = none
theorem ok_pot {f : Addr} {fd : FuncData} {k : Nat} (F : Fun K "_law_pot" "_law_pot" sPot f fd) (B : Blt mg) : FnOk P w K mg base CX0 (k + 1) f fd ["script", "place"] (spPot K) := by
  refine F.ok scPot (fun vs H Q E h => ?_) (fun cdv A outer s H vs Q E hr h => ?_)
  · obtain ⟨a, ns, i, rfl, _⟩ := h
    rfl
  · obtain ⟨a, ns, i, rfl, hS, hlen, h0, h1, q⟩ := h
    refine ⟨_, Evl.pss_cut (ps_set (i := 2) scPot.nd rfl (.inl rfl) (pe_ifExp (pt_cmpR op_lt (pv 1) (pe_callB call_len_seq (by rfl) B.len PySem.boot_len (pa_cons (pv 0) pa_nil)) (nomark _))
        (pe_ix ix_list (pv 0) (pv 1) (fun _ _ => rfl))
        (pe_op op_add (pe_op op_add (pe_op op_mod (pe_callB (cr_sum rfl) (by rfl) B.sum PyProof.Rows.boot_sum (pa_cons (pe_slice sl_list (pv 0) po_none (po_some pe_int)) pa_nil)) pe_int) (pe_op op_mul pe_int (pv 1))) pe_int)))
      (pss_cons (ps_set (i := 3) scPot.nd rfl (.inl rfl) (pe_op op_mul (pe_op op_mod (pe_callTy call_int1 (by rfl) B.int PyProof.Rows.boot_int (pa_cons (pe_callB call_abs (by rfl) B.abs PyProof.Rows.boot_abs (pa_cons (pv 2) pa_nil)) pa_nil))
          (pe_op op_powW (pe_op op_powW pe_int pe_int) pe_int))
          (pe_callTy call_int1 (by rfl) B.int PyProof.Rows.boot_int (pa_cons (pe_cmpR op_ge (pe_callB call_abs (by rfl) B.abs PyProof.Rows.boot_abs (pa_cons (pv 2) pa_nil)) (pe_op op_powW pe_int pe_int) (nomark _)) pa_nil))))
      (pss_cons (ps_set (i := 4) scPot.nd rfl (.inl rfl) (pe_op op_mod (pe_callTy call_int1 (by rfl) B.int PyProof.Rows.boot_int (pa_cons (pv 2) pa_nil)) pe_int))
      (pss_one (ps_ret (pe_lst (pa_cons (pv 3) (pa_cons (pe_op op_mod (pe_callTy call_int1 (by rfl) B.int PyProof.Rows.boot_int (pa_cons
        (pe_op op_add (pe_op op_add (pe_op op_mul (pv 4) pe_int) (pe_op op_mul (pe_op op_mul pe_int (pv 1)) (pv 1))) pe_int) pa_nil)) pe_int) (pa_cons pe_int pa_nil)))))))), ?_⟩
    -- the cell: any int, whatever the way
    refine ⟨fun σ' H' => ∃ c : Int, σ' = [some (.ref a), some (.int i), some (.int c), none, none] ∧ Same H H', ?_, ?_⟩
    · refine ⟨_, rfl, .ref a, rfl, a, ns.map V.int, rfl, .inl hS, _, _, rfl, rfl, _, rfl, ite2 (fun e => ?_) (fun e => ?_)⟩
      · have e' : i < (ns.map V.int).length := of_decide_eq_true e
        obtain ⟨j, rfl⟩ : ∃ j : Nat, i = (j : Int) := ⟨i.toNat, by omega⟩
        have hj : j < ns.length := by rw [List.length_map] at e'; omega
        refine ⟨.ref a, rfl, .int (j : Int), rfl, a, _, _, .int ns[j], rfl, rfl, hS, atI_nat (j := j) ?_, ns[j], rfl, Same.refl H⟩
        rw [List.getElem?_map, List.getElem?_eq_getElem hj]; rfl
      · refine ⟨.ref a, rfl, 1, rfl, a, _, rfl, hS, fun c nc => ?_⟩
        have s1 : Same H (upd H c (.lst (cutV (ns.map V.int) none (some 1)))) := same_upd nc
        have ec : cutV (ns.map V.int) none (some 1) = (ns.take 1).map V.int := by
          unfold cutV
          rw [show HT.sIx (ns.map V.int).length (ns.map V.int).length (some 1) = min 1 (ns.map V.int).length from HT.sIx_nat _ _ 1, HT.sIx_none]
          rw [List.length_map, List.drop_zero, Nat.sub_zero, List.map_take]
          rw [List.take_eq_take_iff, List.length_map]; omega
        refine ⟨c, ns.take 1, rfl, sql_of (by rw [upd_same, ec]), ?_⟩
        refine ⟨_, _, rfl, rfl, (by show (0 : Int) < 1000003; decide), .int i, rfl, _, _, rfl, rfl, .inl ⟨by decide, by decide⟩, _, _, rfl, rfl, _, _, rfl, rfl, _, rfl, s1⟩
    · rintro σ' H1 ⟨c, rfl, s1⟩
      refine ⟨.int c, rfl, c, rfl, .inl ⟨_, rfl, _, _, rfl, rfl, ⟨by decide, by decide +kernel⟩, _, _, rfl, rfl, ⟨by decide, by decide +kernel⟩, _, _, rfl, rfl, (by show (0 : Int) < ((10 : Int) ^ Int.toNat 60) ^ Int.toNat 5; decide +kernel), ?_⟩⟩
      refine ⟨.int c, rfl, c, rfl, _, _, rfl, rfl, ⟨by decide, by decide +kernel⟩, _, _, rfl, rfl, .inr ⟨_, rfl, _, _, rfl, rfl, .inr ?_, ?_⟩⟩
      · exact b01 _
      have own0 : ∀ (x m : Int) (b : Prop) [Decidable b], m ≠ 0 → 0 ≤ x % m * (if b then 1 else 0) := fun x m b _ hm => Int.mul_nonneg (Int.emod_nonneg _ hm) (by split <;> decide)
      refine ⟨.int c, rfl, .inl ⟨_, rfl, _, _, rfl, rfl, (by show (0 : Int) < 2305843009213693951; decide), ?_⟩⟩
      have e0 := Int.emod_nonneg c (show (2305843009213693951 : Int) ≠ 0 by decide)
      have e1 := Int.emod_lt_of_pos c (show (0 : Int) < 2305843009213693951 by decide)
      refine ⟨_, rfl, .int (c % 2305843009213693951), rfl, _, _, rfl, rfl, .inl ⟨by omega, by omega⟩, .int i, rfl, _, _, rfl, rfl, .inl ⟨by decide, by decide⟩, .int i, rfl, _, _, rfl, rfl, .inr ⟨by omega, by omega⟩,
        _, _, rfl, rfl, _, _, rfl, rfl, .inl ⟨_, rfl, _, _, rfl, rfl, (by show (0 : Int) < 2305843009213693921; decide), by show 3 ≤ sizeLine; decide, fun p hp => ?_⟩⟩
      refine q p _ (s1.trans (same_upd hp)) (s1.free hp) ⟨⟨_, _, _, upd_same, own0 _ _ _ (by decide +kernel), Int.emod_nonneg _ (by decide), ?_, by decide, by decide⟩⟩
      exact Int.lt_of_lt_of_le (Int.emod_lt_of_pos _ (by decide)) (by decide)
theorem ok_take {f : Addr} {fd : FuncData} {k : Nat} (F : Fun K "_law_take" "_law_take" sTake f fd) (B : Blt mg) : FnOk P w K mg base CX0 (k + 1) f fd ["pot", "upto"] spTake := by
  refine F.ok scTake (fun vs H Q E h => ?_) (fun cdv A outer s H vs Q E hr h => ?_)
  · obtain ⟨a, u, N, rfl, _⟩ := h
    rfl
  · obtain ⟨a, u, N, rfl, hP, hN, hu0, hu1, q⟩ := h
    refine ⟨_, pss_cons (ps_if (pt_cmpR op_gt (pe_ix ix_list (pv 0) pe_int (fun _ _ => rfl)) pe_int (nomark _))
        (pss_cons (ps_set (i := 2) scTake.nd rfl (.inl rfl) (pe_op op_mod (pe_callTy call_int1 (by rfl) B.int PyProof.Rows.boot_int (pa_cons (pe_ix ix_list (pv 0) pe_int (fun _ _ => rfl)) pa_nil)) (pv 1)))
        (pss_cons (ps_asg (pe_op op_fdiv (pe_ix ix_list (pv 0) pe_int (fun _ _ => rfl)) (pv 1)) (pg_sub (pv 0) pe_int set_list))
        (pss_one (ps_ret (pv 2))))) pss_nil)
      (pss_cons (ps_asg (pe_op op_add (pe_ix ix_list (pv 0) pe_int (fun _ _ => rfl)) pe_int) (pg_sub (pv 0) pe_int set_list))
      (pss_cons (ps_set (i := 3) scTake.nd rfl (.inl rfl) (pe_ix ix_list (pe_lst (pa_cons pe_int (pa_cons pe_int (pa_cons pe_int (pa_cons pe_int (pa_cons pe_int pa_nil))))))
          (pe_op op_mod (pe_callTy call_int1 (by rfl) B.int PyProof.Rows.boot_int (pa_cons (pe_ix ix_list (pv 0) pe_int (fun _ _ => rfl)) pa_nil)) pe_int) (fun _ _ => rfl)))
      (pss_cons (ps_set (i := 4) scTake.nd rfl (.inl rfl) (pe_op op_mod (pe_callTy call_int1 (by rfl) B.int PyProof.Rows.boot_int (pa_cons (pe_op op_powW (pe_callTy call_int1 (by rfl) B.int PyProof.Rows.boot_int (pa_cons
          (pe_op op_add (pe_op op_add (pe_ix ix_list (pv 0) pe_int (fun _ _ => rfl)) (pe_op op_mul (pe_op op_mul pe_int (pe_ix ix_list (pv 0) pe_int (fun _ _ => rfl))) (pe_ix ix_list (pv 0) pe_int (fun _ _ => rfl)))) pe_int) pa_nil)) pe_int) pa_nil)) (pv 3)))
      (pss_cons (ps_set (i := 4) scTake.nd rfl (.inl rfl) (pe_op op_mod (pe_callTy call_int1 (by rfl) B.int PyProof.Rows.boot_int (pa_cons (pe_op op_mul (pv 4) (pe_op op_add (pe_op op_mod (pe_callTy call_int1 (by rfl) B.int PyProof.Rows.boot_int (pa_cons (pv 4) pa_nil)) pe_int)
          (pe_op op_mul pe_int (pe_ix ix_list (pv 0) pe_int (fun _ _ => rfl))))) pa_nil)) pe_int))
      (pss_one (ps_ret (pe_op op_mod (pe_callTy call_int1 (by rfl) B.int PyProof.Rows.boot_int (pa_cons (pe_op op_fdiv (pv 4) pe_int) pa_nil)) (pv 1)))))))), ?_⟩
    obtain ⟨x, y, z, e, hx, hy, hy1, hz, hz1⟩ := hP.ex
    have hS : SqL K H a [.int x, .int y, .int z] := sql_of e
    refine ⟨.ref a, rfl, a, _, 0, .int x, rfl, rfl, hS, rfl, _, _, rfl, rfl, _, rfl, ite2 (fun c => ?_) (fun c => ?_)⟩
    · have c' : 0 < x := of_decide_eq_true c
      refine ⟨.ref a, rfl, a, _, 0, .int x, rfl, rfl, hS, rfl, .inl ⟨x, rfl, .int u, rfl, _, _, rfl, rfl, hu0, ?_⟩⟩
      refine ⟨.ref a, rfl, a, _, 0, .int x, rfl, rfl, hS, rfl, .int u, rfl, _, _, rfl, rfl, ⟨hu0, by omega⟩, .ref a, rfl, a, _, 0, 0, rfl, rfl, e, rfl, ?_⟩
      refine ⟨.int (x % u), rfl, ?_⟩
      exact q _ _ (Int.emod_nonneg _ (by omega)) (Int.emod_lt_of_pos _ hu0) ((SameX.refl a H).put) ⟨⟨_, y, z, upd_same, Int.ediv_nonneg hx (by omega), hy, hy1, hz, by omega⟩⟩
    · refine ⟨.ref a, rfl, a, _, 2, .int z, rfl, rfl, hS, rfl, _, _, rfl, rfl, .ref a, rfl, a, _, 2, 2, rfl, rfl, e, rfl, ?_⟩
      have e2 : upd H a (.lst ([V.int x, .int y, .int z].set 2 (.int (z + 1)))) a = some (.lst [.int x, .int y, .int (z + 1)]) := upd_same
      generalize hH2 : upd H a (.lst ([V.int x, .int y, .int z].set 2 (.int (z + 1)))) = H2 at e2 ⊢
      have s2 : SameX a H H2 := by rw [← hH2]; exact (SameX.refl a H).put
      refine ⟨by show 5 ≤ sizeLine; decide, fun p hp => ?_⟩
      have s3 : Same H2 (upd H2 p (.lst [.int 2147483647, .int 2147483629, .int 2147483587, .int 2147483579, .int 2147483563])) := same_upd hp
      have hp1 : (upd H2 p (.lst [.int 2147483647, .int 2147483629, .int 2147483587, .int 2147483579, .int 2147483563])) p = some (.lst [.int 2147483647, .int 2147483629, .int 2147483587, .int 2147483579, .int 2147483563]) := upd_same
      have e3 := s3 _ _ e2
      have s4 := s2.trans (.of s3)
      generalize (upd H2 p (.lst [.int 2147483647, .int 2147483629, .int 2147483587, .int 2147483579, .int 2147483563])) = H3 at s3 hp1 e3 s4 ⊢
      have hS3 : SqL K H3 a [.int x, .int y, .int (z + 1)] := sql_of e3
      refine ⟨.ref a, rfl, a, _, 2, .int (z + 1), rfl, rfl, hS3, rfl, .inl ⟨_, rfl, _, _, rfl, rfl, (by show (0 : Int) < 5; decide), ?_⟩⟩
      have m0 := Int.emod_nonneg (z + 1) (show (5 : Int) ≠ 0 by decide)
      have m1 := Int.emod_lt_of_pos (z + 1) (show (0 : Int) < 5 by decide)
      obtain ⟨pr, hpr, hp0, hp2⟩ : ∃ pr : Int, atI [V.int 2147483647, .int 2147483629, .int 2147483587, .int 2147483579, .int 2147483563] ((z + 1) % 5) = some (.int pr) ∧ 0 < pr ∧ pr < 2 ^ 31 := by
        generalize (z + 1) % 5 = m at m0 m1
        obtain h | h | h | h | h : m = 0 ∨ m = 1 ∨ m = 2 ∨ m = 3 ∨ m = 4 := by omega
        all_goals (subst h; exact ⟨_, rfl, by decide, by decide⟩)
      refine ⟨p, _, _, .int pr, rfl, rfl, sql_of hp1, hpr, ?_⟩
      -- blend
      refine ⟨.ref a, rfl, a, _, 1, .int y, rfl, rfl, hS3, rfl, .ref a, rfl, a, _, 2, .int (z + 1), rfl, rfl, hS3, rfl, _, _, rfl, rfl, .inl ⟨by decide, by decide⟩,
        .ref a, rfl, a, _, 2, .int (z + 1), rfl, rfl, hS3, rfl, _, _, rfl, rfl, .inr ⟨by omega, by omega⟩, _, _, rfl, rfl, _, _, rfl, rfl, .inl ⟨_, rfl, _, _, rfl, rfl, ⟨by decide, ?_⟩, .inl ⟨_, rfl, .int pr, rfl, _, _, rfl, rfl, hp0, ?_⟩⟩⟩
      · have w0 : 0 ≤ (z + 1) * (z + 1) := Int.mul_nonneg (by omega) (by omega)
        have w1 : (z + 1) * (z + 1) ≤ 1073741824 * 1073741824 := Int.mul_le_mul (by omega) (by omega) (by omega) (by omega)
        have hb : Builtin.Int.intBits (y + 98353 * (z + 1) * (z + 1) + 431) ≤ 100 := by
          refine bits_nat ?_
          rw [Int.mul_assoc]
          generalize (z + 1) * (z + 1) = ww at w0 w1
          omega
        omega
      generalize ((y + 98353 * (z + 1) * (z + 1) + 431) ^ Int.toNat 3) = big
      have b0 := Int.emod_nonneg big (show pr ≠ 0 by omega)
      have b1 := Int.emod_lt_of_pos big hp0
      refine ⟨.int (big % pr), rfl, .int (big % pr), rfl, .inl ⟨_, rfl, _, _, rfl, rfl, (by show (0 : Int) < 10009; decide), .ref a, rfl, a, _, 2, .int (z + 1), rfl, rfl, hS3, rfl, _, _, rfl, rfl, .inl ⟨by decide, by decide⟩, _, _, rfl, rfl,
        _, _, rfl, rfl, .inl ⟨by omega, by omega⟩, .inl ⟨_, rfl, _, _, rfl, rfl, (by show (0 : Int) < 2305843009213693907; decide), ?_⟩⟩⟩
      refine ⟨_, rfl, _, _, rfl, rfl, ⟨by decide, by decide⟩, .inl ⟨_, rfl, .int u, rfl, _, _, rfl, rfl, hu0, ?_⟩⟩
      exact q _ _ (Int.emod_nonneg _ (by omega)) (Int.emod_lt_of_pos _ hu0) s4 ⟨⟨x, y, z + 1, e3, hx, hy, hy1, by omega, by omega⟩⟩
theorem ok_of {f fT : Addr} {fd fdT : FuncData} {k : Nat} (F : Fun K "_law_of" "_law_of" sOf f fd) (B : Blt mg) (GT : FnOk P w K mg base CX0 k fT fdT ["pot", "upto"] spTake) (gT : mg "_law_take" = some (.ref fT)) (kT : PySem.W.keepIn K (.ref fT) = true) (bT : Binds K fdT ["pot", "upto"] []) :
    FnOk P w K mg base CX0 (k + 1) f fd ["pot", "some"] (spOf K) := by
  refine F.ok scOf (fun vs H Q E h => ?_) (fun cdv A outer s H vs Q E hr h => ?_)
  · obtain ⟨a, b, xs, N, rfl, _⟩ := h
    rfl
  · obtain ⟨a, b, xs, N, rfl, hP, hN, hS, hab, h0, h1, q⟩ := h
    refine ⟨_, pss_one (ps_ret (pe_ix ix_list (pv 1) (pe_call GT hr (by rfl) gT kT bT .nil pass0 (pa_cons (pv 0) (pa_cons (pe_callB call_len_seq (by rfl) B.len PySem.boot_len (pa_cons (pv 1) pa_nil)) pa_nil))) (fun _ _ => rfl))), ?_⟩
    refine ⟨.ref b, rfl, .ref a, rfl, .ref b, rfl, b, xs, rfl, .inl hS, a, (xs.length : Int), N, rfl, hP, hN, by omega, by omega, fun r H' r0 r1 sx hP' => ?_⟩
    have hj : r.toNat < xs.length := by omega
    have hS' : SqL K H' b xs := by
      rcases hS with (h | ⟨o, h⟩) | h
      · exact .inl (.inl (sx _ _ (Ne.symm hab) h))
      · exact .inl (.inr ⟨o, sx _ _ (Ne.symm hab) h⟩)
      · exact .inr h
    refine ⟨b, xs, r, xs[r.toNat], rfl, rfl, hS', ?_, q r.toNat _ H' (List.getElem?_eq_getElem hj) sx hP'⟩
    exact at_of (j := r.toNat) (by omega) (List.getElem?_eq_getElem hj)
theorem ok_cells {f : Addr} {fd : FuncData} {k : Nat} (F : Fun K "_law_cells" "_law_cells" sCells f fd) (B : Blt mg) : FnOk P w K mg base CX0 (k + 1) f fd ["script", "most"] (spCells K) := by
  refine F.ok scCells (fun vs H Q E h => ?_) (fun cdv A outer s H vs Q E hr h => ?_)
  · obtain ⟨a, xs, m, rfl, _⟩ := h
    rfl
  · obtain ⟨a, xs, m, rfl, hS, hl, h0, h1, q⟩ := h
    refine ⟨_, pss_one (ps_ret (pe_listRg rfl (by rfl) B.list (prg_1 (by rfl) B.range (pe_callB (call_max2 rfl) (by rfl) B.max PyProof.Rows.boot_max (pa_cons pe_int (pa_cons
      (pe_callB (call_min2 rfl) (by rfl) B.min PyProof.Rows.boot_min (pa_cons (pv 1) (pa_cons (pe_callB call_len_seq (by rfl) B.len PySem.boot_len (pa_cons (pv 0) pa_nil)) pa_nil))) pa_nil)))))), ?_⟩
    refine ⟨.int m, rfl, .ref a, rfl, a, xs, rfl, .inl hS, _, _, rfl, _, _, rfl, _, rfl, ?_⟩
    have key : ∀ v : Int, 0 < v → v ≤ m → v ≤ 1000 → RgOk 0 v ∧ ∀ p, H p = none → Q (.ref p) (upd H p (.lst (rgV 0 v))) := fun v v0 v1 v2 => ⟨.of_le (by omega) (by omega) (by omega) (by omega), fun p hp => by
      refine q v.toNat p _ (by omega) (by omega) (same_upd hp) hp ?_
      rw [upd_same]
      unfold rgV
      rw [Int.sub_zero]
      refine congrArg (fun l => some (HO.lst l)) (List.map_congr_left fun i _ => ?_)
      rw [Int.zero_add]⟩
    refine key _ ?_ ?_ ?_
    all_goals (repeat' split) <;> omega
end
end Hw

set_option Elab.async false
set_option linter.all false
set_option maxRecDepth 100000
set_option maxHeartbeats 4000000
namespace Hw
open PySem L2 PyProof.Rows
/-! an exception held as a value: the object at a, its own dict at d -/
def XAt (H : Hp) (a C d : Addr) (v : V) : Prop := H a = some (exo a C (some d)) ∧ H d = some (exd d [("value", v)])
theorem XAt.same {H H' : Hp} {a C d : Addr} {v : V} (x : XAt H a C d v) (s : Same H H') : XAt H' a C d v := ⟨s _ _ x.1, s _ _ x.2⟩
theorem XAt.sameX {H H' : Hp} {a C d p : Addr} {v : V} (x : XAt H a C d v) (s : SameX p H H') (ha : a ≠ p) (hd : d ≠ p) : XAt H' a C d v := ⟨s _ _ ha x.1, s _ _ hd x.2⟩
/-- what the written part says of such a class -/
structure XCls (K : PySem.W.Frag) (fI C : Addr) : Prop where
  o : OexC K C
  x : XfC K C
  noV : PySem.W.findIn K (.ref C) "value" = some none
  ini : PySem.W.findIn K (.ref C) "__init__" = some (some (.ref fI))
  tI : PySem.W.typeIn K (.ref fI) = some (.type "function")
  cl : (PySem.W.clsIn K C).isSome = true
  ha : PySem.W.findIn K (.ref C) "__class__" = some (some (.builtin "object.__class__"))
  hn : PySem.W.specialIn K (.builtin "object.__class__") "__get__" = some (some (.builtin "getset_descriptor.__get__"))
  ht : PySem.W.takesIn K (.builtin "object.__class__") = some true
  hm : PySem.W.mroIn K C (.type "object") = some true
def oexB (K : PySem.W.Frag) (C : Addr) : Bool := match K.lookup C with
  | some ⟨.type "type", _, .cls cd, sl⟩ => (match cd.mro, sl.toList with
    | .ref C' :: bm, [_, _, _, _, some (.builtin n), _] => C' == C && (n == "ValueError.__new__" && (!cd.hasDel && (cd.hasDict && PySem.HandSPX.refsVE bm)))
    | _, _ => false)
  | _ => false
theorem oexB_ok {K : PySem.W.Frag} {C : Addr} (q : oexB K C = true) :
    ∃ nm q N bs bm sn sub ab col dd k0 k1 k2 k3 k5, K.lookup C = some (excClassObj nm q C N bs bm true sn sub ab col dd k0 k1 k2 k3 k5 "ValueError.__new__") ∧ PySem.HandSPX.refsVE bm = true := by
  unfold oexB at q
  split at q
  · rename_i dd cd sl ho
    split at q
    · rename_i C' bm k0 k1 k2 k3 n k5 hm hs
      simp only [Bool.and_eq_true, beq_iff_eq, Bool.not_eq_true'] at q
      obtain ⟨rfl, rfl, hdel, hdi, hve⟩ := q
      obtain ⟨nm, bs, mro, ns, qn, hd, sn, sub, ab, col, del⟩ := cd
      dsimp only at hm hdel hdi
      subst hm hdel hdi
      have hsl : sl = #[k0, k1, k2, k3, some (.builtin "ValueError.__new__"), k5] := by
        obtain ⟨l⟩ := sl
        simp only at hs
        rw [hs]
      subst hsl
      exact ⟨nm, qn, ns, bs, bm, sn, sub, ab, col, dd, k0, k1, k2, k3, k5, ho, hve⟩
    · cases q
  · cases q
def xclsB (K : PySem.W.Frag) (fI C : Addr) : Bool :=
  oexB K C && (decide (PySem.W.findIn K (.ref C) "__setattr__" = some (some (.builtin "object.__setattr__"))) && (decide (PySem.W.subIn K (.ref C) (.type "BaseException") = some true) && (decide (PySem.W.typeIn K (.ref C) = some (.type "type")) && (PySem.W.keepIn K (.ref C) &&
  (xfB K C && (decide (PySem.W.findIn K (.ref C) "value" = some none) && (decide (PySem.W.findIn K (.ref C) "__init__" = some (some (.ref fI))) && (decide (PySem.W.typeIn K (.ref fI) = some (.type "function")) && ((PySem.W.clsIn K C).isSome &&
  (decide (PySem.W.findIn K (.ref C) "__class__" = some (some (.builtin "object.__class__"))) && (decide (PySem.W.specialIn K (.builtin "object.__class__") "__get__" = some (some (.builtin "getset_descriptor.__get__"))) &&
  (decide (PySem.W.takesIn K (.builtin "object.__class__") = some true) && decide (PySem.W.mroIn K C (.type "object") = some true)))))))))))))
theorem xclsB_ok {K : PySem.W.Frag} {fI C : Addr} (h : xclsB K fI C = true) : XCls K fI C := by
  unfold xclsB at h
  simp only [Bool.and_eq_true, decide_eq_true_eq] at h
  obtain ⟨a1, a2, a3, a4, a5, a6, a7, a8, a9, b1, b2, b3, b4, b5⟩ := h
  exact ⟨⟨oexB_ok a1, a2, a3, a4, a5⟩, xfB_ok a6, a7, a8, a9, b1, b2, b3, b4, b5⟩
/-- the promise of __init__(self, value) -/
def spIniX (K : PySem.W.Frag) : Sp := fun vs H Q _ => ∃ (a C fI : Addr) (v : V), vs = [.ref a, v] ∧ XCls K fI C ∧ H a = some (exo a C none) ∧
  ∀ dx, H dx = none → dx ≠ a → Q .non (upd (upd H dx (exd dx [("value", v)])) a (exo a C (some dx)))
/-- C(e): a new exception -/
def tMkX (C : Addr) (ta : TA) : TE := fun σ H Q => ta σ H fun vs H1 => ∃ v, vs = [v] ∧ ∀ a d, H1 a = none → H1 d = none → d ≠ a → Q (.ref a) (upd (upd H1 d (exd d [("value", v)])) a (exo a C (some d)))
/-- x.value of a held exception -/
def tXv (K : PySem.W.Frag) (n : Str) (te : TE) : TE := fun σ H Q => te σ H fun x H1 => ∃ (a C d fI : Addr) (v : V), x = .ref a ∧ n = "value" ∧ XCls K fI C ∧ XAt H1 a C d v ∧ Q v H1
/-- isinstance(x, c) of a held exception -/
def rIsX (K : PySem.W.Frag) : List V → Hp → VK → Prop := fun xs H Q => ∃ (a C d fI : Addr) (v c : V) (u : Value) (b : Bool), xs = [.ref a, c] ∧ ClsV c u ∧ XCls K fI C ∧ XAt H a C d v ∧ PySem.W.kitOne K (.ref C) u = some b ∧ Q (.bl b) H
section
variable {X : Cx}
theorem pe_mkX {x : Str} {C fI : Addr} {k : Nat} {fd : FuncData} {e : Expr} {es : List Expr} {ta : TA} {p pos : Pos} (T : XCls X.K fI C) (F1 : FnOk X.prog X.w X.K X.mg X.base CX0 k fI fd ["self", "value"] (spIniX X.K)) (hr : Room (k + 1) X.A) (hb : Binds X.K fd ["self", "value"] [])
    (hg : Gl X x) (hm : X.mg x = some (.ref C)) (ha : PA X (e :: es) ta) (hdb : (x == ("__debug__" : Str)) = false := by decide) (hs : starEach (e :: es) X.env = (false, eval e X.env) :: starEach es X.env := by rfl) (hpl : (backTo pos (starEach es X.env)).any (·.1) = false := by rfl) :
    PE X (.Call (.Name x p) (e :: es) [] pos) (tMkX C ta) := by
  refine ⟨fun pins s σ H Q I h => ?_⟩
  obtain ⟨nm, q, N, bs, bm, sn, sub, ab, col, dd, k0, k1, k2, k3, k5, hC, hbm⟩ := T.o.cls
  refine wpAny_Call_Name_kw (ld_glob I hg hm ?_ hdb)
  refine PySem.W.callWith_K (h₀ := X.base) I.ok.mod.kin T.o.kC (thn (ha.run pos pins s σ H _ I h) fun us s1 ⟨vs, H1, I1, r1, v, ev, q1⟩ => ⟨I1.kIn, ?_⟩) hs hpl
  subst ev
  show wpAny _ _ (call (.ref C) us) _ _ _
  obtain ⟨hp, g, dr, tk, os⟩ := s1
  have hsz : hp.objs.size ≤ hp.objs.size + 1 := Nat.le_succ _
  have hn : H1 (hp.objs.size + 1) = none := I1.hok.fresh hsz
  have keeps : ∀ b o, hp.get? b = some o → ((hp.push (PySem.W.kdv_tup us)).push (PySem.HandSPX.excO C hp.objs.size)).get? b = some o := fun b o e => Heap.get?_push_of_some _ (Heap.get?_push_of_some _ e)
  have made : ((hp.push (PySem.W.kdv_tup us)).push (PySem.HandSPX.excO C hp.objs.size)).get? (hp.objs.size + 1) = some (PySem.HandSPX.excO C hp.objs.size) := by heap_get
  have I2 : Inv X pins σ (upd H1 (hp.objs.size + 1) (exo (hp.objs.size + 1) C none)) ⟨(hp.push (PySem.W.kdv_tup us)).push (PySem.HandSPX.excO C hp.objs.size), g, dr, tk, os⟩ :=
    I1.laid (t' := tk) keeps hsz (exo_ok made)
  have r2 : Vals (V.ref (hp.objs.size + 1) :: [v]) (Value.ref (hp.objs.size + 1) :: us) := .cons rfl r1
  have hl : (Value.ref (hp.objs.size + 1) :: us).length = (["self", "value"] : List Str).length := by
    rw [← r2.length]; rfl
  have hus : us.length ≤ sizeLine := by
    rw [← Paired.length r1, sizeLine_eq]; show 1 ≤ 16777216; decide
  have hsp : spIniX X.K (V.ref (hp.objs.size + 1) :: [v]) (upd H1 (hp.objs.size + 1) (exo (hp.objs.size + 1) C none)) (fun v' H2 => v' = .non ∧ ∃ d, H1 d = none ∧ d ≠ hp.objs.size + 1 ∧ H2 = upd (upd H1 d (exd d [("value", v)])) (hp.objs.size + 1) (exo (hp.objs.size + 1) C (some d))) E0 := by
    refine ⟨_, C, fI, v, rfl, T, upd_same, fun dx n1 n2 => ⟨rfl, dx, ?_, n2, ?_⟩⟩
    · rw [upd_ne n2] at n1; exact n1
    · funext b
      by_cases hb : b = hp.objs.size + 1
      · rw [hb, upd_same, upd_same]
      · rw [upd_ne hb, upd_ne hb]
        by_cases hd : b = dx
        · rw [hd, upd_same, upd_same]
        · rw [upd_ne hd, upd_ne hd, upd_ne hb]
  refine wpAny_call (PySem.HandSPX.call_own F.excBase_ValueError (fun Y => PySem.HandSPX.refsVE_contains Y bm hbm) (I1.kIn _ _ hC) (PySem.W.looks_findIn I1.kIn T.ini) (fun self => PySem.W.bind_fn I1.kIn self T.tI) hus
    (codeAny_mono (F1.run _ X.stack _ _ ⟨Value.ref (hp.objs.size + 1) :: us, []⟩ (Value.ref (hp.objs.size + 1) :: us) _ _ E0 (hr.make C us []) (I2.env0.make C us []) (by have z := hb _ (Value.ref (hp.objs.size + 1) :: us) I2.kIn (by simpa using hl); simpa using z) r2 hsp) fun r s' hq' => ?_))
  cases r with
  | error er => exact hq'.elim
  | ok fl =>
    cases fl with
    | ret u =>
      obtain ⟨v', H2, os2, bare2, un2, hok2, rv, ev, d, nd, nda, rfl⟩ := hq'
      subst ev
      exact ⟨rv, .ref _, _, I2.call' (ch := []) os2 un2 hok2 bare2 (fun b z => absurd z (by simp)), rfl, q1 _ d hn nd nda⟩
    | next => exact False.elim hq'
    | brk => exact False.elim hq'
    | cont => exact False.elim hq'
theorem xinst {pins : List (Addr × Obj)} {σ : L2.St} {H : Hp} {s : Shared} {a C d : Addr} {v : V} (I : Inv X pins σ H s) (x : XAt H a C d v) :
    ∃ ox od mA, PySem.W.InstAt s.heap a ox C (some od) ∧ s.heap.Ns1 d mA ∧ (∀ f, RelO (List.lookup f [(("value" : Str), v)]) (mA f)) ∧ s.heap.get? d = some od := by
  obtain ⟨t1, e1⟩ := exo_at I.hok x.1
  obtain ⟨mA, hns, rel⟩ := exd_at I.hok x.2
  obtain ⟨od, es, ep, ho, rest⟩ := id hns
  exact ⟨_, od, mA, ⟨e1, rfl, rfl, ho⟩, hns, rel, ho⟩
theorem pe_xv {e : Expr} {te : TE} {pos : Pos} {n : Str} (he : PE X e te) (hb : attributeBase e n X.env (eval e X.env) = eval e X.env := by rfl) : PE X (.Attribute e n pos) (tXv X.K n te) := by
  refine ⟨fun pins s σ H Q I h => ?_⟩
  refine attr_of hb (thn (he.run pins s σ H _ I h) fun u s1 ⟨x, H1, I1, rx, a, C, d, fI, v, ex, en, T, xa, q⟩ => ?_)
  subst ex en
  obtain rfl : u = Value.ref a := rx
  obtain ⟨mA, hns, rel⟩ := exd_at I1.hok xa.2
  obtain ⟨t1, e1⟩ := exo_at I1.hok xa.1
  obtain ⟨od, ho, hl⟩ := lookIn_ns hns
  obtain ⟨u, hu, ru⟩ := RelO.some_of (v := v) (o := mA ("value" : Str)) (by have z := rel ("value" : Str); rwa [lookup_put, if_pos rfl] at z)
  have J : PySem.W.InstAt s1.heap a _ C (some od) := ⟨e1, rfl, rfl, ho⟩
  exact HandSPX.exc_get I1.kIn J T.x.ga T.x.gg T.x.exC (PySem.W.findObj_own T.x.hdC T.noV rfl (by rw [hl, hu])) (handed_of ru) ⟨v, H1, I1.tok _, ru, q⟩
theorem call_isX : CallR X (.builtin "isinstance") (rIsX X.K) := by
  intro pins s σ H xs us Q I r h
  obtain ⟨a, C, d, fI, v, c, u, b, rfl, hc, T, xa, e, q⟩ := h
  obtain ⟨u1, u2, rfl, r1, r2⟩ := vals2 r
  cases (show u1 = Value.ref a from r1)
  have e2 := hc.eq r2
  subst e2
  obtain ⟨ox, od, mA, J, _⟩ := xinst I xa
  exact PySem.W.kia_one (PySem.W.kitx_exc T.cl T.x.ga T.x.gg T.x.exC T.ha T.hn T.ht T.hm) I.kIn J e (fun z => nomatch z) fun tk => ⟨.bl b, H, I.tok tk, rfl, q⟩
end
end Hw

set_option Elab.async false
set_option linter.all false
set_option maxRecDepth 100000
set_option maxHeartbeats 4000000
namespace Hw
open PySem L2 PyProof.Rows
/-! defs that know that no repr runs around them -/
structure RoomG (k : Nat) (A : Around) : Prop where
  r : Room k A
  g : A.guards = some []
theorem RoomG.mono {j k : Nat} {A : Around} (r : RoomG k A) (h : j ≤ k) : RoomG j A := ⟨r.r.mono h, r.g⟩
theorem RoomG.deeper {k : Nat} {A : Around} (r : RoomG (k + 1) A) (env : Env) : RoomG k (A.deeper env) := ⟨r.r.deeper env, r.g⟩
theorem RoomG.make {k : Nat} {A : Around} (r : RoomG (k + 1) A) (C : Addr) (us : List Value) (kw : List (Str × Value)) : RoomG k (A.under (.builtin "type.__call__" ⟨.ref C :: us, kw⟩)) :=
  ⟨r.r.make C us kw, by
    have e : (A.under (.builtin "type.__call__" ⟨.ref C :: us, kw⟩)).guards = A.guards := by
      first | rfl | simp [Around.under, Code.guards, pushGuards, Code.isGuard, guardIds]
    rw [e]; exact r.g⟩
section
variable (P : Program) (w : World) (K : PySem.W.Frag) (mg : Str → Option Value) (base : Heap)
structure FnG (CX : CXT) (k : Nat) (f : Addr) (fd : FuncData) (ps : List Str) (sp : Sp) : Prop where
  len : ∀ vs H Q E, sp vs H Q E → vs.length = ps.length
  run : ∀ (A : Around) (outer : List Env) (s : Shared) (H : Hp) (args : Args) (us : List Value) (vs : List V) (Q : VK) (E : XK), RoomG k A → Env0 P w K mg base A outer s H →
    BindsTo s fd args (ps.zip us) → Vals vs us → sp vs H Q E → codeAny (model P w) A (.call (.ref f) args) (CR CX outer P w H s Q E) s
end
section
variable {P : Program} {w : World} {K : PySem.W.Frag} {mg : Str → Option Value} {base : Heap} {CX : CXT} {k : Nat} {f : Addr} {fd : FuncData} {ps : List Str} {sp sp' : Sp}
theorem toG (F : FnOk P w K mg base CX k f fd ps sp) : FnG P w K mg base CX k f fd ps sp := ⟨F.len, fun A o s H a us vs Q E hr => F.run A o s H a us vs Q E hr.r⟩
theorem FnG.mono {j : Nat} (F : FnG P w K mg base CX j f fd ps sp) (h : j ≤ k) : FnG P w K mg base CX k f fd ps sp := ⟨F.len, fun A o s H a us vs Q E hr => F.run A o s H a us vs Q E (hr.mono h)⟩
theorem FnG.imp (F : FnG P w K mg base CX k f fd ps sp) (h : ∀ vs H Q E, sp' vs H Q E → sp vs H Q E) : FnG P w K mg base CX k f fd ps sp' :=
  ⟨fun vs H Q E q => F.len vs H Q E (h _ _ _ _ q), fun A o s H a us vs Q E hr he hb hv hs => F.run A o s H a us vs Q E hr he hb hv (h _ _ _ _ hs)⟩
end
section
variable {X : Cx} {CX : CXT} {k : Nat} {f C : Addr} {fd : FuncData} {ps : List Str} {sp : Sp} {dvs : List V} {ds : List Value} {E : XK} {x m : Str} {p pos apos : Pos} {e o : Expr} {es : List Expr} {ta : TE} {t : TA}
theorem runG {pins : List (Addr × Obj)} {σ : L2.St} {H : Hp} {s : Shared} {Q : VK} {us : List Value} {vs : List V} (F : FnG X.prog X.w X.K X.mg X.base CX k f fd ps sp) (hr : RoomG k X.A) (hb : Binds X.K fd ps ds) (hd : Vals dvs ds)
    (hx : Passes CX X E) (I : Inv X pins σ H s) (r : Vals vs us) (h : sp (vs ++ dvs) H Q E) : wpAny (model X.prog X.w) X.A (call (.ref f) us) (EP X pins σ Q) X.xe s := by
  have rr : Vals (vs ++ dvs) (us ++ ds) := r.append hd
  have ll : (us ++ ds).length = ps.length := rr.length.symm.trans (F.len _ _ _ _ h)
  refine wpAny_call (codeAny_mono (F.run X.A X.stack s H ⟨us, []⟩ (us ++ ds) (vs ++ dvs) Q E hr I.env0 (hb s us I.kIn ll) rr h) fun r' s' hq => ?_)
  match r', hq with
  | .error er, hq => exact hx pins σ H s er s' I hq
  | .ok (.ret u), hq => exact I.after hq
  | .ok .next, hq => exact False.elim hq
  | .ok .brk, hq => exact False.elim hq
  | .ok .cont, hq => exact False.elim hq
theorem pe_callG (F : FnG X.prog X.w X.K X.mg X.base CX k f fd ps sp) (hr : RoomG k X.A) (hg : Gl X x) (hm : X.mg x = some (.ref f)) (hk : PySem.W.keepIn X.K (.ref f) = true) (hb : Binds X.K fd ps ds) (hd : Vals dvs ds)
    (hx : Passes CX X E) (ha : PA X (e :: es) t) (hdb : (x == ("__debug__" : Str)) = false := by decide) (he : starEach (e :: es) X.env = (false, eval e X.env) :: starEach es X.env := by rfl)
    (hpl : (backTo pos (starEach es X.env)).any (·.1) = false := by rfl) : PE X (.Call (.Name x p) (e :: es) [] pos) (tCall sp dvs E t) :=
  ⟨fun pins s σ H Q I h => wpAny_Call_Name_kw (ld_glob I hg hm (PySem.W.callWith_K (h₀ := X.base) I.ok.mod.kin hk (thn (ha.run pos pins s σ H _ I h) fun us s1 ⟨vs, H1, I1, r, q⟩ => ⟨I1.kIn, runG F hr hb hd hx I1 r q⟩) he hpl) hdb)⟩
theorem pe_call0G (F : FnG X.prog X.w X.K X.mg X.base CX k f fd ps sp) (hr : RoomG k X.A) (hg : Gl X x) (hm : X.mg x = some (.ref f)) (hk : PySem.W.keepIn X.K (.ref f) = true) (hb : Binds X.K fd ps ds) (hd : Vals dvs ds)
    (hx : Passes CX X E) (hdb : (x == ("__debug__" : Str)) = false := by decide) : PE X (.Call (.Name x p) [] [] pos) (tCall sp dvs E tNil) :=
  ⟨fun pins s σ H Q I h => wpAny_Call_Name_kw (ld_glob I hg hm (PySem.W.callWith_K0 I.kIn hk (runG (us := []) F hr hb hd hx I .nil h)) hdb)⟩
end
/-- a def by its body -/
theorem fnG_of {CX : CXT} {P : Program} {w : World} {K : PySem.W.Frag} {mg : Str → Option Value} {base : Heap} {k : Nat} {f : Addr} {name qual : Str} {params : Arguments} {body : List Stmt} {scope : Scope} {dV kV doc pm cdv ct oc : Value} {an od : Option Addr}
    {osl : Array (Option Value)} {N ps : List Str} {sp : Sp} (lk : K.lookup f = some ⟨oc, od, .func (PySem.W.fnOf name qual params body scope dV kV doc pm an cdv ct), osl⟩) (hcd : PySem.W.codeIn K cdv qual = true)
    (S : FnScope N ps scope) (len : ∀ vs H Q E, sp vs H Q E → vs.length = ps.length)
    (hbody : ∀ (A : Around) (outer : List Env) (s : Shared) (H : Hp) (vs : List V) (Q : VK) (E : XK), RoomG k (A.deeper (envOfC qual scope s.heap.objs.size f cdv)) → sp vs H Q E →
      ∃ t, PSs (cxOf CX P w K mg base N qual scope f cdv A outer s H E) body t ∧ t { nx := fun _ H' => Q .non H', rt := Q } (start N vs) H) :
    FnG P w K mg base CX (k + 1) f (PySem.W.fnOf name qual params body scope dV kV doc pm an cdv ct) ps sp := by
  refine ⟨len, fun A outer s H args us vs Q E hr e0 hb r hsp => ?_⟩
  have nl := len _ _ _ _ hsp
  have kin : K.In s.heap := e0.mod.kin.keeps fun b o e => (e0.bs b o e).1
  have nolim : s.heap.NoLimit := e0.mod.nolimit.keeps fun b o e => (e0.bs b o e).1
  have kinds : ∀ y ∈ ps.zip us, scope.names.lookup y.1 = some .local ∨ (scope.names.lookup y.1 = some .cell ∧ ((cellsFrom (s.heap.objs.size + 1) scope.names []).lookup y.1).isSome = true) := by
    rintro ⟨n, v⟩ hy
    rcases S.par n (List.of_mem_zip hy).1 with q | q
    · left; exact q
    · right; exact ⟨q, PySem.W.cellsFrom_some _ _ _ (.inl q)⟩
  refine codeAny_call_function hr.r.depth (kin _ _ lk) rfl S.co S.gen rfl (PySem.W.codeRec_of kin hcd) (hb _ _ _ _ ?_)
  refine wpAny_newFunctionEnv_cells S.kind kinds fun env he s1 x => ?_
  subst he
  refine ⟨nolim.keeps x.toInCall.keep, codeAny_func ?_⟩
  obtain ⟨t, ht, hq⟩ := hbody A outer s H vs Q E (hr.deeper _) hsp
  have I0 : Inv (cxOf CX P w K mg base N qual scope f cdv A outer s H E) [] (start N vs) H s1 := inv_start S hr.r.hd e0 nl r x
  refine wpAny_mono (ht.run [] s1 (start N vs) H _ I0 hq) (fun fl s' hs => ?_) fun _ _ hs => hs
  have done : ∀ {σ' : L2.St} {H' : Hp} {v : V} {u : Value}, Inv (cxOf CX P w K mg base N qual scope f cdv A outer s H E) [] σ' H' s' → RelV v u → Q v H' → CE outer P w H s Q u s' :=
    fun {_ H' v _} J rv q => ⟨v, H', J.os, J.bare, J.base, J.hok, rv, q⟩
  match fl, hs with
  | .ret u, ⟨v, σ', H', J, rv, q⟩ => exact done J rv q
  | .next, ⟨σ', H', J, q⟩ => exact done (v := V.non) (u := Value.none) J rfl q
  | .brk, ⟨_, _, _, q⟩ => exact False.elim q
  | .cont, ⟨_, _, _, q⟩ => exact False.elim q
section
variable {P : Program} {w : World} {K : PySem.W.Frag} {mg : Str → Option Value} {base : Heap}
theorem funG {x qual : Str} {st : Stmt} {f : Addr} {fd : FuncData} {N ps : List Str} {k : Nat} {sp : Sp} (F : Fun K x qual st f fd) (S : FnScope N ps (defScope st)) (len : ∀ vs H Q E, sp vs H Q E → vs.length = ps.length)
    (hbody : ∀ (cdv : Value) (A : Around) (outer : List Env) (s : Shared) (H : Hp) (vs : List V) (Q : VK) (E : XK), RoomG k (A.deeper (envOfC qual (defScope st) s.heap.objs.size f cdv)) → sp vs H Q E →
      ∃ t, PSs (cxOf CX0 P w K mg base N qual (defScope st) f cdv A outer s H E).nox (defBody st) t ∧ t { nx := fun _ H' => Q .non H', rt := Q } (start N vs) H) : FnG P w K mg base CX0 (k + 1) f fd ps sp := by
  obtain ⟨oc, od, kV, doc, pm, an, cdv, ct, osl, rfl, lk, hcd⟩ := F.ex
  exact fnG_of lk hcd S len fun A outer s H vs Q E hr hsp => by
    obtain ⟨t, h, q⟩ := hbody cdv A outer s H vs Q E hr hsp
    exact ⟨t, h.nox, q⟩
theorem funGX {x qual : Str} {st : Stmt} {f : Addr} {fd : FuncData} {N ps : List Str} {k : Nat} {sp : Sp} (F : Fun K x qual st f fd) (S : FnScope N ps (defScope st)) (len : ∀ vs H Q E, sp vs H Q E → vs.length = ps.length)
    (hbody : ∀ (cdv : Value) (A : Around) (outer : List Env) (s : Shared) (H : Hp) (vs : List V) (Q : VK) (E : XK), RoomG k (A.deeper (envOfC qual (defScope st) s.heap.objs.size f cdv)) → sp vs H Q E →
      ∃ t, PSs (cxOf (L2.CX P w) P w K mg base N qual (defScope st) f cdv A outer s H E) (defBody st) t ∧ t { nx := fun _ H' => Q .non H', rt := Q } (start N vs) H) : FnG P w K mg base (L2.CX P w) (k + 1) f fd ps sp := by
  obtain ⟨oc, od, kV, doc, pm, an, cdv, ct, osl, rfl, lk, hcd⟩ := F.ex
  exact fnG_of lk hcd S len fun A outer s H vs Q E hr hsp => hbody cdv A outer s H vs Q E hr hsp
end
/-- the law's call -/
theorem lawG {P : Program} {w : World} {K : PySem.W.Frag} {mg mb : Str → Option Value} {k : Nat} {fa a : Addr} {fd : FuncData} {x : Str} {sp : Sp} {s1 : Shared} {vs : List Value} {ns : List Int}
    (KX : K.In s1.heap) (hns : s1.heap.Ns mainGlobals mg) (hb : s1.heap.Ns builtinsNs mb) (hbb : ∀ x : Str, x ≠ "__name__" → mb x = bootBuiltins x) (hlim : s1.heap.NoLimit) (hgen : s1.gens = #[])
    (ha : s1.heap.get? a = some { cls := .type "list", data := .seq vs.toArray }) (hi : IntsAre vs ns) (hl : ns.length ≤ sizeLine) (hr : Room k callerA)
    (F : ∀ base : Heap, K.In base → base.Ns mainGlobals mg → FnG P w K mg base CX0 k fa fd [x] sp) (hbind : ∀ (s : Shared) (u : Value), BindsTo s fd ⟨[u], []⟩ [(x, u)])
    (hsp : ∀ H : Hp, Only H → SqL K H a (ns.map V.int) → sp [.ref a] H (fun v _ => v = .bl true) E0) :
    codeAny (model P w) callerA (.call (.ref fa) ⟨[.ref a], []⟩) (fun r s' => r = .ok (.ret (.bool true)) ∧ OldK s1.heap s'.heap ∧ s'.os = s1.os ∧ AllBare s'.gens) s1 := by
  have rv := vals_ints hi
  have core : ∀ H : Hp, Only H → SqL K H a (ns.map V.int) → HOk P w H s1.heap → (∀ b, H b ≠ none → b = a) → (H a ≠ none → K.lookup a = none) →
      codeAny (model P w) callerA (.call (.ref fa) ⟨[.ref a], []⟩) (fun r s' => r = .ok (.ret (.bool true)) ∧ OldK s1.heap s'.heap ∧ s'.os = s1.os ∧ AllBare s'.gens) s1 := by
    intro H hO hS hok onlyA notK
    have hid : ∀ {b : Addr} {o : Obj}, s1.heap.get? b = some o → H b = none → (hidT s1.heap H).get? b = some o := fun e n => hidT_get e n
    have free : ∀ {b : Addr}, (b = a → False) → H b = none := fun {b} h => by
      cases q : H b with
      | none => rfl
      | some u => exact (h (onlyA b (by rw [q]; simp))).elim
    have nsH : ∀ {b : Addr} {m : Str → Option Value}, s1.heap.Ns b m → (hidT s1.heap H).Ns b m := fun {b m} ⟨o, es, ep, e, d, r⟩ => by
      refine ⟨o, es, ep, hid e (free fun z => ?_), d, r⟩
      subst z
      rw [ha] at e
      have e' := Option.some.inj e
      rw [← e'] at d
      cases d
    have kinH : K.In (hidT s1.heap H) := fun b o e => by
      refine hid (KX b o e) ?_
      by_cases hba : b = a
      · subst hba
        cases q : H b with
        | none => rfl
        | some u =>
          have z := notK (by rw [q]; simp)
          rw [e] at z; cases z
      · exact free hba
    have modH : Mod K mg (hidT s1.heap H) := ⟨kinH, nsH hns, ⟨mb, nsH hb, hbb⟩, let ⟨mc, h1, h2⟩ := hlim; ⟨mc, nsH h1, h2⟩⟩
    have env0 : Env0 P w K mg (hidT s1.heap H) callerA [] s1 H := ⟨rfl, modH, fun b o e => of_hidT e, Nat.le_of_eq (hidT_size _ _), trivial, fun b hb => (by cases hb), hok, .of_eq hgen⟩
    refine codeAny_mono ((F _ kinH (nsH hns)).run callerA [] s1 H ⟨[.ref a], []⟩ [.ref a] [.ref a] _ _ ⟨hr, rfl⟩ env0 (hbind s1 (.ref a)) (.cons rfl .nil) (hsp H hO hS)) fun r s' h => ?_
    match r, h with
    | .error e, h => exact False.elim h
    | .ok .next, h => exact False.elim h
    | .ok .brk, h => exact False.elim h
    | .ok .cont, h => exact False.elim h
    | .ok (.ret u), h =>
      obtain ⟨v, H', os, bare, un, hok', r', q⟩ := h
      obtain rfl : v = .bl true := q
      obtain rfl : u = Value.bool true := r'
      refine ⟨rfl, OldK.of_keep fun b o e => ?_, os, bare⟩
      cases q : H b with
      | none => exact un.keep b o e q (by intro z; cases z) (by intro z; cases z)
      | some u =>
        obtain ⟨ob, xs, z⟩ : ∃ o xs, H b = some (.frz o (.lst xs)) := (hO b).resolve_left (by rw [q]; simp)
        have e1 := (hok b _ z).1
        have e2 := (hok' b _ (un.frzs b ob _ z)).1
        rw [e] at e1
        cases e1
        exact e2
  cases hk : K.lookup a with
  | some o =>
    have e := KX a o hk
    rw [ha] at e
    cases e
    exact core (fun _ => none) (fun _ => .inl rfl) (.inr ⟨_, vs.toArray, _, hk, rfl, rfl, rfl, by rw [List.size_toArray, hi.length]; exact hl, by simpa using rv⟩) (fun b u z => by cases (show (none : Option HO) = some u from z)) (fun b z => absurd rfl z) fun z => absurd rfl z
  | none =>
    have at_ : ∀ {b : Addr}, b ≠ a → (if b = a then some (HO.frz { cls := .type "list", data := .seq vs.toArray } (.lst (ns.map V.int))) else none) = none := fun h => if_neg h
    refine core (fun b => if b = a then some (.frz { cls := .type "list", data := .seq vs.toArray } (.lst (ns.map V.int))) else none) (fun b => ?_) (.inl (.inr ⟨{ cls := .type "list", data := .seq vs.toArray }, if_pos rfl⟩)) (fun b u z => ?_) (fun b z => ?_) fun _ => hk
    · by_cases hba : b = a
      · exact .inr ⟨_, _, if_pos hba⟩
      · exact .inl (at_ hba)
    · by_cases hba : b = a
      · subst hba
        have z' := (if_pos rfl).symm.trans z
        cases z'
        exact ⟨ha, by rw [List.length_map]; exact hl, vs, _, rv, ha⟩
      · have z' := (at_ hba).symm.trans z
        cases z'
    · by_cases hba : b = a
      · exact hba
      · exact absurd (at_ hba) z
theorem walkG {l : PySem.W.OpenLaw} {n k : Nat} {q : Program} {loose : List Str} {XP : (Str → Option Value) → Heap → Prop} {YP : World → Heap → Prop} {d : DefRec} {K : Params → PySem.W.Frag} {sp : World → Sp} {x : Str}
    (hn : l.most = some n) (hn2 : n ≤ sizeLine) (hdf : d.params.defaults = []) (hr : Room k callerA) (hY : ∀ (w : World) (h : Heap), YP w h → (K w.params).In h)
    (F : ∀ (w : World) (mg : Str → Option Value) (fa : Addr) (h : Heap), (K w.params).In h → h.Ns mainGlobals mg → mg d.name = some (.ref fa) →
      ∃ fd : FuncData, (∀ (s : Shared) (u : Value), BindsTo s fd ⟨[u], []⟩ [(x, u)]) ∧ ∀ base : Heap, (K w.params).In base → base.Ns mainGlobals mg → FnG l.prog w (K w.params) mg base CX0 k fa fd [x] (sp w))
    (hsp : ∀ (w : World) (H : Hp) (a : Addr) (ns : List Int), ns.length ≤ n → Only H → SqL (K w.params) H a (ns.map V.int) → sp w [.ref a] H (fun v _ => v = .bl true) E0) :
    PySem.W.WalkO q loose XP YP l.row.toRowW d [] (fun f vs => PySem.call f vs) := by
  refine Att.attach_call hn hdf fun w s0 s1 mg mb fa o pm cd doc a vs ns G Y ho hd hcd hmg hobj hints hlen hgen => ?_
  have KX := hY w _ Y
  obtain ⟨fd, hb, hF⟩ := F w mg fa _ KX G.T.g hmg
  exact lawG KX G.T.g G.T.b G.T.builtins G.T.nolimit hgen hobj hints (Nat.le_trans hlen hn2) hr hF hb (fun H hO hS => hsp w H a ns hlen hO hS)
end Hw

set_option Elab.async false
set_option linter.all false
set_option maxRecDepth 100000
set_option maxHeartbeats 4000000
namespace Hw
open PySem L2 PyProof.Rows
/-! repr of data -/
mutual
theorem Dp_noDict {K : PySem.W.Frag} {H : Hp} : ∀ (d : PyData) (v : V), Dp K H v d → d.hasDict = false
  | .none, _, _ => by simp only [PyData.hasDict]
  | .bool _, _, _ => by simp only [PyData.hasDict]
  | .int _, _, _ => by simp only [PyData.hasDict]
  | .str _, _, _ => by simp only [PyData.hasDict]
  | .list ds, _, h => by
    cases h with
    | lst _ ha => simp only [PyData.hasDict]; exact DpAll_noDict ds _ ha
  | .tuple ds, _, h => by
    cases h with
    | tup _ ha => simp only [PyData.hasDict]; exact DpAll_noDict ds _ ha
  | .dict _, _, h => nomatch h
theorem DpAll_noDict {K : PySem.W.Frag} {H : Hp} : ∀ (ds : List PyData) (vs : List V), DpAll K H vs ds → PyData.hasDictAll ds = false
  | [], _, _ => by simp only [PyData.hasDictAll]
  | d :: ds, _, h => by
    cases h with
    | cons h1 h2 =>
      simp only [PyData.hasDictAll]
      rw [Dp_noDict d _ h1, DpAll_noDict ds _ h2]; rfl
end
/-- what is flat, as data -/
def flatPD : V → Option PyData
  | .non => some .none
  | .bl b => some (.bool b)
  | .int i => some (.int i)
  | .str x => some (.str x)
  | _ => none
def keyPD : Key → PyData
  | .inl i => .int i
  | .inr x => .str x
/-- a dict with flat values, as data -/
def DpK (H : Hp) (v : V) (d : PyData) : Prop := ∃ (a : Addr) (kvs : List (Key × V)) (ds : List (PyData × PyData)), v = .ref a ∧ H a = some (.dK kvs) ∧ d = .dict ds ∧
  Paired (fun p q => q.1 = keyPD p.1 ∧ flatPD p.2 = some q.2) kvs ds
def rRepr (K : PySem.W.Frag) : List V → Hp → VK → Prop := fun xs H Q => ∃ (x : V) (d : PyData), xs = [x] ∧ (Dp K H x d ∨ DpK H x d) ∧ d.showable = true ∧ d.depth ≤ 60 ∧ d.shown.length ≤ sizeLine ∧ Q (.str d.shown) H
theorem flat_reads {h : Heap} {v : V} {d : PyData} {u : Value} (e : flatPD v = some d) (r : RelV v u) : Reads h u d [] := by
  cases v with
  | non => cases e; cases r; exact .none
  | bl b => cases e; cases r; exact .bool b
  | int i => cases e; obtain ⟨t, rfl⟩ := r; exact .int i t
  | str x => cases e; obtain ⟨t, rfl⟩ := r; exact .str x t
  | byt b => cases e
  | flt b => cases e
  | ref a => cases e
  | ty n => cases e
theorem key_reads {P : Program} {w : World} {h : Heap} {k : Key} {u : Value} (e : (mixKind P w).is k u = true) : Reads h u (keyPD k) [] := by
  rcases keyIs_shape e with ⟨i, t, rfl, rfl⟩ | ⟨x, t, rfl, rfl⟩
  · exact .int i t
  · exact .str x t
theorem dict_reads {P : Program} {w : World} {h : Heap} : ∀ {kvs : List (Key × V)} {ds : List (PyData × PyData)} {vs : List (Key × Value)} {es : List DictEntry}, Paired (fun p q => q.1 = keyPD p.1 ∧ flatPD p.2 = some q.2) kvs ds → KV kvs vs → PySem.Pairs (mixKind P w) es vs →
    ReadsAll h (es.map (·.key)) (ds.map (·.1)) [] ∧ ReadsAll h (es.map (·.val)) (ds.map (·.2)) []
  | [], _, _, _, .nil, kv, pr => by cases kv; cases pr; exact ⟨.nil, .nil⟩
  | p :: kvs, q :: ds, _, _, .cons a t, kv, pr => by
    cases kv with
    | cons k1 k2 =>
      cases pr with
      | cons p1 p2 p3 =>
        obtain ⟨r1, r2⟩ := dict_reads t k2 p3
        obtain ⟨e1, e2⟩ := a
        refine ⟨?_, ?_⟩
        · have z : ReadsAll h _ _ ([] ++ []) := .cons (key_reads (h := h) p1) r1
          rw [← k1.1, ← e1] at z
          exact z
        · have y := flat_reads (h := h) e2 k1.2
          rw [← p2] at y
          exact (ReadsAll.cons y r2 : ReadsAll h _ _ ([] ++ []))
section
variable {X : Cx}
theorem call_repr (hg : X.A.guards = some []) (hu : X.A.units + 100 < cLine) : CallR X (.builtin "repr") (rRepr X.K) := by
  intro pins s σ H xs us Q I r h
  obtain ⟨x, d, rfl, hd, hs, hdp, hz, q⟩ := h
  obtain ⟨u, w', rfl, ru, rw'⟩ : ∃ u w', us = [u] ∧ RelV x u ∧ w' = us := by
    cases r with
    | cons a t => cases t; exact ⟨_, _, rfl, a, rfl⟩
  have fin : ∀ h' (tk : Tok) (tk' : Nat), (∀ b o, s.heap.get? b = some o → h'.get? b = some o) → EP X pins σ Q (.str d.shown tk) { s with heap := h', toks := tk' } := fun h' tk tk' k => ⟨.str d.shown, H, I.kept (t' := tk') k, ⟨tk, rfl⟩, q⟩
  have big : ∀ {a : Addr} {as : List Addr}, Reads s.heap (.ref a) d as → (d.hasDict = true → sysModules ∉ as) → wpAny (model X.prog X.w) X.A (call (.builtin "repr") [.ref a]) (EP X pins σ Q) X.xe s := fun {a as} r1 hm =>
    repr_of_reads' (h₀ := s.heap) r1 hs hm hg (by omega) (fun _ _ e => e) (fun h' u tk k => fin h' u tk k) hz
  rcases hd with hd | ⟨a, kvs, ds, rfl, ha, rfl, hp⟩
  · have nd := Dp_noDict d x hd
    obtain ⟨as, r1⟩ := Dp.reads I d x u hd ru
    cases hd with
    | non => cases ru; exact P.repr_of_none (fin s.heap _ _ fun _ _ e => e)
    | bl b =>
      cases ru
      refine P.repr_of_bool ?_
      have z := fin s.heap s.toks (s.toks + 1) fun _ _ e => e
      simpa only [PyData.shown] using z
    | int i =>
      obtain ⟨t, rfl⟩ := ru
      refine P.repr_of_int (by simpa only [PyData.showable, decide_eq_true_eq] using hs) ?_
      have z := fin s.heap s.toks (s.toks + 1) fun _ _ e => e
      simpa only [PyData.shown] using z
    | str y =>
      obtain ⟨t, rfl⟩ := ru
      refine P.repr_of_str ?_ (by simpa only [PyData.shown] using hz)
      have z := fin s.heap s.toks (s.toks + 1) fun _ _ e => e
      simpa only [PyData.shown] using z
    | lst h1 h2 => cases ru; exact big r1 (by rw [nd]; exact fun z => nomatch z)
    | tup h1 h2 => cases ru; exact big r1 (by rw [nd]; exact fun z => nomatch z)
  · cases ru
    obtain ⟨hl, hsys, vs, kv, o, es, ep, ho, hex, hdat, _, hpr, _⟩ := dk_of I.hok ha
    obtain ⟨r1, r2⟩ := dict_reads (h := s.heap) hp kv hpr
    refine big (.dict ho hex.1 hdat r1 r2) fun _ hm => ?_
    have e : sysModules = a := by simpa using hm
    rw [← e] at hsys
    simp at hsys
end
end Hw

set_option Elab.async false
set_option linter.all false
set_option maxRecDepth 100000
set_option maxHeartbeats 4000000
namespace Hw
open PySem L2 PyProof.Rows
/-! written data, laid beside a place a -/
mutual
inductive Dx (a : Addr) (H : Hp) : V → PyData → Prop
  | flat {v : V} {d : PyData} : flatPD v = some d → Dx a H v d
  | lst {p : Addr} {xs : List V} {ds : List PyData} : H p = some (.lst xs) → p ≠ a → DxAll a H xs ds → Dx a H (.ref p) (.list ds)
  | tup {p : Addr} {xs : List V} {ds : List PyData} : H p = some (.tup xs) → p ≠ a → DxAll a H xs ds → Dx a H (.ref p) (.tuple ds)
  | dct {p : Addr} {kvs : List (Key × V)} {ds : List (PyData × PyData)} : H p = some (.dK kvs) → p ≠ a → (∀ q ∈ kvs, valV kvs q.1 = some q.2 ∧ flatB q.2 = true) → Paired (fun q e => e.1 = keyPD q.1 ∧ flatPD q.2 = some e.2) kvs ds → Dx a H (.ref p) (.dict ds)
inductive DxAll (a : Addr) (H : Hp) : List V → List PyData → Prop
  | nil : DxAll a H [] []
  | cons {v : V} {vs : List V} {d : PyData} {ds : List PyData} : Dx a H v d → DxAll a H vs ds → DxAll a H (v :: vs) (d :: ds)
end
section
variable {a : Addr} {H H' : Hp}
mutual
theorem Dx.keep (s : SameX a H H') : ∀ (v : V) (d : PyData), Dx a H v d → Dx a H' v d
  | _, .list ds, h => by
    cases h with
    | flat e => exact .flat e
    | lst h1 h2 h3 => exact .lst (s _ _ h2 h1) h2 (DxAll.keep s _ ds h3)
  | _, .tuple ds, h => by
    cases h with
    | flat e => exact .flat e
    | tup h1 h2 h3 => exact .tup (s _ _ h2 h1) h2 (DxAll.keep s _ ds h3)
  | _, .dict ds, h => by
    cases h with
    | flat e => exact .flat e
    | dct h1 h2 h3 h4 => exact .dct (s _ _ h2 h1) h2 h3 h4
  | _, .none, h => by cases h with | flat e => exact .flat e
  | _, .bool _, h => by cases h with | flat e => exact .flat e
  | _, .int _, h => by cases h with | flat e => exact .flat e
  | _, .str _, h => by cases h with | flat e => exact .flat e
theorem DxAll.keep (s : SameX a H H') : ∀ (vs : List V) (ds : List PyData), DxAll a H vs ds → DxAll a H' vs ds
  | _, [], h => by cases h; exact .nil
  | _, d :: ds, h => by
    cases h with
    | cons h1 h2 => exact .cons (Dx.keep s _ d h1) (DxAll.keep s _ ds h2)
end
theorem DxAll.length : ∀ {vs : List V} {ds : List PyData}, DxAll a H vs ds → vs.length = ds.length
  | _, _, .nil => rfl
  | _, _, .cons _ t => congrArg (· + 1) (DxAll.length t)
theorem DxAll.append : ∀ {vs ws : List V} {ds es : List PyData}, DxAll a H vs ds → DxAll a H ws es → DxAll a H (vs ++ ws) (ds ++ es)
  | _, _, _, _, .nil, t => t
  | _, _, _, _, .cons x y, t => .cons x (DxAll.append y t)
theorem DxAll.at : ∀ {vs : List V} {ds : List PyData} {i : Nat} {v : V}, DxAll a H vs ds → vs[i]? = some v → ∃ d, d ∈ ds ∧ Dx a H v d
  | _, _, _, _, .nil, e => by simp at e
  | _, _, 0, _, .cons x _, e => by
    simp at e; subst e
    exact ⟨_, List.mem_cons_self, x⟩
  | _, _, i + 1, v, .cons _ t, e => by
    obtain ⟨d, h1, h2⟩ := DxAll.at (i := i) t (by simpa using e)
    exact ⟨d, List.mem_cons_of_mem _ h1, h2⟩
theorem Dp_flat {K : PySem.W.Frag} {v : V} {d : PyData} (e : flatPD v = some d) : Dp K H v d := by
  cases v with
  | non => cases e; exact .non
  | bl b => cases e; exact .bl b
  | int i => cases e; exact .int i
  | str x => cases e; exact .str x
  | byt b => cases e
  | flt b => cases e
  | ref a => cases e
  | ty n => cases e
mutual
theorem Dx.dp (K : PySem.W.Frag) : ∀ (v : V) (d : PyData), d.hasDict = false → Dx a H v d → Dp K H v d
  | _, .list ds, n, h => by
    cases h with
    | flat e => exact Dp_flat e
    | lst h1 h2 h3 => exact .lst (sql_of h1) (DxAll.dp K _ ds (by simpa only [PyData.hasDict] using n) h3)
  | _, .tuple ds, n, h => by
    cases h with
    | flat e => exact Dp_flat e
    | tup h1 h2 h3 => exact .tup (sqt_of h1) (DxAll.dp K _ ds (by simpa only [PyData.hasDict] using n) h3)
  | _, .dict ds, n, h => by simp [PyData.hasDict] at n
  | _, .none, _, h => by cases h with | flat e => exact Dp_flat e
  | _, .bool _, _, h => by cases h with | flat e => exact Dp_flat e
  | _, .int _, _, h => by cases h with | flat e => exact Dp_flat e
  | _, .str _, _, h => by cases h with | flat e => exact Dp_flat e
theorem DxAll.dp (K : PySem.W.Frag) : ∀ (vs : List V) (ds : List PyData), PyData.hasDictAll ds = false → DxAll a H vs ds → DpAll K H vs ds
  | _, [], _, h => by cases h; exact .nil
  | _, d :: ds, n, h => by
    simp only [PyData.hasDictAll, Bool.or_eq_false_iff] at n
    cases h with
    | cons h1 h2 => exact .cons (Dx.dp K _ d n.1 h1) (DxAll.dp K _ ds n.2 h2)
end
end
/-! displays that lay data -/
def MkD (te : TE) (d : PyData) : Prop := ∀ (a : Addr) (σ : L2.St) (H : Hp) (Q : VK), H a ≠ none → (∀ v H', Same H H' → Dx a H' v d → Q v H') → te σ H Q
def MkA (ta : TA) (ds : List PyData) : Prop := ∀ (a : Addr) (σ : L2.St) (H : Hp) (Q : List V → Hp → Prop), H a ≠ none → (∀ vs H', Same H H' → DxAll a H' vs ds → Q vs H') → ta σ H Q
theorem same_some {a : Addr} {H H' : Hp} (s : Same H H') (h : H a ≠ none) : H' a ≠ none := by
  cases e : H a with
  | none => exact absurd e h
  | some o => rw [s _ _ e]; exact fun z => nomatch z
theorem mkA_nil : MkA tNil [] := fun _ _ H _ _ q => q [] H (Same.refl H) .nil
theorem mkA_cons {te : TE} {ta : TA} {d : PyData} {ds : List PyData} (h1 : MkD te d) (h2 : MkA ta ds) : MkA (tCons te ta) (d :: ds) := fun a σ H Q ha q =>
  h1 a σ H _ ha fun v H1 s1 x1 => h2 a σ H1 _ (same_some s1 ha) fun vs H2 s2 x2 => q (v :: vs) H2 (s1.trans s2) (.cons (Dx.keep (.of s2) _ _ x1) x2)
theorem mk_c {v : V} {d : PyData} (h : flatPD v = some d) : MkD (tC v) d := fun a σ H Q _ q => q v H (Same.refl H) (.flat h)
theorem mk_neg {i : Int} : MkD (tUn (rU fun i => .int (-i)) (tC (.int i))) (.int (-i)) := fun a σ H Q _ q => ⟨i, rfl, q _ H (Same.refl H) (.flat rfl)⟩
theorem mk_tup {ta : TA} {ds : List PyData} (h : MkA ta ds) (hl : ds.length ≤ 1000) : MkD (tTup ta) (.tuple ds) := fun a σ H Q ha q => h a σ H _ ha fun vs H1 s1 x1 =>
  ⟨Nat.le_of_lt (small1000 (by rw [x1.length]; exact hl)), fun p hp => q _ _ (s1.trans (same_upd hp)) (.tup upd_same (fun e => same_some s1 ha (e ▸ hp)) (DxAll.keep (.of (same_upd hp)) _ _ x1))⟩
theorem mk_lst {ta : TA} {ds : List PyData} (h : MkA ta ds) (hl : ds.length ≤ 1000) : MkD (tLst ta) (.list ds) := fun a σ H Q ha q => h a σ H _ ha fun vs H1 s1 x1 =>
  ⟨Nat.le_of_lt (small1000 (by rw [x1.length]; exact hl)), fun p hp => q _ _ (s1.trans (same_upd hp)) (.lst upd_same (fun e => same_some s1 ha (e ▸ hp)) (DxAll.keep (.of (same_upd hp)) _ _ x1))⟩
theorem mk_dnew : MkD tDNewK (.dict []) := fun a σ H Q ha q p hp => q _ _ (same_upd hp) (.dct upd_same (fun e => ha (e ▸ hp)) (fun _ z => nomatch z) .nil)
theorem mk_dict1 {k : Str} {i : Int} : MkD (tDisp [(tC (.str k), tC (.int i))]) (.dict [(.str k, .int i)]) := fun a σ H Q ha q p hp => by
  refine ⟨upd_same, [(Sum.inr k, .int i)], rfl, by show 1 ≤ 15; decide, ?_⟩
  refine q _ _ (fun b o e => ?_) (.dct upd_same (fun e => ha (e ▸ hp)) (kvs := [(Sum.inr k, .int i)]) ?_ (.cons ⟨rfl, rfl⟩ .nil))
  · have hb := ne_of_none e hp
    rw [upd_ne hb, upd_ne hb]; exact e
  · intro z hz
    rcases List.mem_cons.mp hz with rfl | hz
    · exact ⟨valV_pos (p := ((Sum.inr k : Key), V.int i)) (r := []) rfl, rfl⟩
    · cases hz
/-- what is shown of such data, and is equal to itself -/
def fineD (d : PyData) : Bool := d.showable && (decide (d.depth ≤ 60) && (decide (d.shown.length ≤ 1000) && (match d with | .dict _ => true | d => !d.hasDict && (SeqAt.shaped d && PyData.eqv d d))))
section
variable {X : Cx}
def rNeO (K : PySem.W.Frag) : R2 := fun x y H Q => ∃ (a : Addr) (d : PyData), y = x ∧ Dx a H x d ∧ fineD d = true ∧ Q (.bl false) H
theorem op_neO (hu : X.A.units + 64 < cLine) : OpR X (compareOp .NotEq) (rNeO X.K) := by
  intro pins s σ H x y v u Q I rx ry h
  obtain ⟨a, d, rfl, hd, hf, q⟩ := h
  unfold fineD at hf
  simp only [Bool.and_eq_true] at hf
  obtain ⟨_, _, _, hf⟩ := hf
  by_cases hdict : ∃ ds, d = .dict ds
  · obtain ⟨ds, rfl⟩ := hdict
    cases hd with
    | flat e => cases y <;> cases e
    | dct h1 h2 h3 h4 => exact op_ne_dictA (by omega) pins s σ H _ _ v u Q I rx ry ⟨_, _, _, _, rfl, rfl, h1, h1, rfl, h3, q⟩
  · have hf' : (!d.hasDict && (SeqAt.shaped d && PyData.eqv d d)) = true := by
      revert hf
      cases d with
      | dict ds => exact absurd ⟨ds, rfl⟩ hdict
      | _ => exact fun z => z
    simp only [Bool.and_eq_true, Bool.not_eq_true'] at hf'
    have z := Dx.dp X.K _ d hf'.1 hd
    exact op_neD hu pins s σ H _ _ v u Q I rx ry ⟨d, d, z, z, hf'.2.1, hf'.2.1, by rw [hf'.2.2]; exact q⟩
def rReprO : List V → Hp → VK → Prop := fun xs H Q => ∃ (x : V) (a : Addr) (d : PyData), xs = [x] ∧ Dx a H x d ∧ fineD d = true ∧ Q (.str d.shown) H
theorem call_reprO (hg : X.A.guards = some []) (hu : X.A.units + 100 < cLine) : CallR X (.builtin "repr") rReprO := by
  intro pins s σ H xs us Q I r h
  obtain ⟨x, a, d, rfl, hd, hf, q⟩ := h
  unfold fineD at hf
  simp only [Bool.and_eq_true, decide_eq_true_eq] at hf
  obtain ⟨h1, h2, h3, hf⟩ := hf
  refine call_repr hg hu pins s σ H _ us Q I r ⟨x, d, rfl, ?_, h1, h2, Nat.le_of_lt (small1000 h3), q⟩
  by_cases hdict : ∃ ds, d = .dict ds
  · obtain ⟨ds, rfl⟩ := hdict
    cases hd with
    | flat e => cases x <;> cases e
    | dct k1 k2 k3 k4 => exact .inr ⟨_, _, ds, rfl, k1, rfl, k4⟩
  · have hf' : (!d.hasDict && (SeqAt.shaped d && PyData.eqv d d)) = true := by
      revert hf
      cases d with
      | dict ds => exact absurd ⟨ds, rfl⟩ hdict
      | _ => exact fun z => z
    simp only [Bool.and_eq_true, Bool.not_eq_true'] at hf'
    exact .inl (Dx.dp X.K _ d hf'.1 hd)
/-- count(True) of bools -/
def isT : Value → Bool
  | .bool b => b
  | _ => false
def rCntT (K : PySem.W.Frag) : V → List V → Hp → VK → Prop := fun x xs H Q => ∃ (p : Addr) (bs : List Bool), x = .ref p ∧ xs = [.bl true] ∧ SqL K H p (bs.map V.bl) ∧ Q (.int (bs.count true : Nat)) H
theorem cnt_isT : ∀ {bs : List Bool} {us : List Value}, Vals (bs.map V.bl) us → us.countP isT = bs.count true
  | [], _, r => by cases r; rfl
  | b :: bs, _, r => by
    cases r with
    | cons r1 r2 =>
      have ih := cnt_isT r2
      rename_i u us'
      obtain rfl : u = Value.bool b := r1
      rw [List.countP_cons, ih, List.count_cons]
      cases b <;> rfl
theorem mem_vals : ∀ {bs : List Bool} {us : List Value}, Vals (bs.map V.bl) us → ∀ y ∈ us, ∃ b, y = Value.bool b
  | [], _, r, y, hy => by cases r; cases hy
  | b :: bs, _, r, y, hy => by
    cases r with
    | cons r1 r2 =>
      rcases List.mem_cons.mp hy with rfl | hy
      · exact ⟨b, r1⟩
      · exact mem_vals r2 y hy
theorem mt_cntT : MtR X "list.count" (rCntT X.K) := by
  intro pins s σ H x xs v us Q I rx rxs h
  obtain ⟨p, bs, rfl, rfl, hs, q⟩ := h
  cases rx
  obtain ⟨u, rfl, ru⟩ := rxs.one
  obtain rfl : u = Value.bool true := ru
  obtain ⟨its, rv, ⟨⟨cls, dd, data, sl⟩, n, ho, hc, hdn, hd⟩, hlen⟩ := I.list hs
  simp only at hc hd
  subst hc hd
  refine call_meets PySem.F.slot_list_count ⟨_, ho, rfl⟩ PySem.F.entry_list_count (PySem.F.args_list_count_2 _ _)
    (SeqAt.list_countAt p its.toArray n dd sl (.bool true) isT) ⟨ho, fun y hy => ?_, ?_⟩
  · obtain ⟨b, rfl⟩ := mem_vals rv y (by simpa using hy)
    have z := eqAt_V (A := X.A.in1) (s := s) (y := .bl b) (x := .bl true) (u := .bool b) (v := .bool true) rfl rfl rfl rfl
    have e : eqV (.bl b) (.bl true) = isT (.bool b) := by cases b <;> rfl
    rw [e] at z
    exact z
  · refine ⟨.int (bs.count true : Nat), H, I.tok _, ⟨s.toks, ?_⟩, q⟩
    have ec : its.toArray.toList.countP isT = bs.count true := cnt_isT rv
    rw [ec]
end
end Hw

set_option Elab.async false
set_option linter.all false
set_option maxRecDepth 100000
set_option maxHeartbeats 4000000
namespace Hw
open PySem L2 PyProof.Rows
section
variable {t u : TS} {te ta tb : TE} {g : TG} {D : Ends} {σ : L2.St} {H : Hp} {Q : VK} {tl tr : TA} {r : R2} {QA : List V → Hp → Prop} {sp : Sp} {dvs : List V} {E : XK}
theorem r_seq (h : t { D with nx := u D } σ H) : tSeq t u D σ H := h
theorem r_asg (h : te σ H fun x H1 => g x σ H1 D.nx) : tAsg te g D σ H := h
theorem r_ret (h : te σ H D.rt) : tRet te D σ H := h
theorem r_cons (h : te σ H fun x H1 => tr σ H1 fun xs H2 => QA (x :: xs) H2) : tCons te tr σ H QA := h
theorem r_op (h : ta σ H fun x H1 => tb σ H1 fun y H2 => r x y H2 Q) : tOp r ta tb σ H Q := h
theorem r_call (h : tl σ H fun vs H1 => sp (vs ++ dvs) H1 Q E) : tCall sp dvs E tl σ H Q := h
theorem r_var {i : Nat} {v : V} (e : σ[i]? = some (some v)) (h : Q v H) : tVar i σ H Q := ⟨v, e, h⟩
end
theorem lst_use {ta : TA} {ds : List PyData} {a : Addr} {σ : L2.St} {H : Hp} {Q : VK} (ha : H a ≠ none) (q : ∀ p xs H', Same H H' → H' p = some (.lst xs) → p ≠ a → DxAll a H' xs ds → Q (.ref p) H') (m : MkA ta ds) (hl : ds.length ≤ 1000) : tLst ta σ H Q :=
  mk_lst m hl a σ H Q ha fun v H' s x => by
    cases x with
    | flat e => cases v <;> cases e
    | lst h1 n1 x1 => exact q _ _ H' s h1 n1 x1
abbrev sIni : Stmt := inClass (topS 1) 0
abbrev sOdd : Stmt := topS 33
abbrev sMade : Stmt := topS 34
abbrev sMadeT : Stmt := topS 35
abbrev sKinds : Stmt := topS 36
abbrev sKindsT : Stmt := topS 37
abbrev sRight : Stmt := topS 38
abbrev sLaw : Stmt := topS 39
/-- the data that are drawn from -/
def odd1 : List PyData := [.none, .bool true, .bool false, .int 0, .int (-1), .str "", .str "A", .str "a b", .tuple [], .list [], .dict [], .tuple [.tuple []], .tuple [.none], .list [.int 0], .tuple [.int 0], .tuple [.str "a"], .tuple [.tuple [.int 0, .int 1]]]
def odd2 : List PyData := [.tuple [.str "a", .str "b"], .tuple [.tuple [.str "a", .str "b"]], .tuple [.tuple [.tuple [.str "a", .str "b"]]], .dict [(.str "a", .int 1)], .str "web", .str "wood"]
theorem odd_all : (odd1 ++ odd2).all fineD = true := by kernel_rfl
theorem odd_fine : ∀ d ∈ odd1 ++ odd2, fineD d = true := List.all_eq_true.mp odd_all
def spOdd : Sp := fun vs H Q _ => ∃ (a : Addr) (N : Nat), vs = [.ref a] ∧ Pot H a N ∧ N < 1000000000 ∧ ∀ v d H', fineD d = true → Dx a H' v d → SameX a H H' → Pot H' a (N + 1) → Q v H'
section
variable {P : Program} {w : World} {K : PySem.W.Frag} {mg : Str → Option Value} {base : Heap}
theorem scIni : FnScope ["self", "value"] ["self", "value"] (defScope sIni) := ⟨rfl, rfl, rfl, by decide +kernel, rfl, by decide +kernel, by decide +kernel⟩
theorem scOdd : FnScope ["pot", "some"] ["pot"] (defScope sOdd) := ⟨rfl, rfl, rfl, by decide +kernel, rfl, by decide +kernel, by decide +kernel⟩
theorem ok_ini {f : Addr} {fd : FuncData} {k : Nat} (F : Fun K "__init__" "HealError.__init__" sIni f fd) : FnOk P w K mg base CX0 (k + 1) f fd ["self", "value"] (spIniX K) := by
  refine F.ok scIni (fun vs H Q E h => ?_) (fun cdv A outer s H vs Q E hr h => ?_)
  · obtain ⟨a, C, fI, v, rfl, _⟩ := h
    rfl
  · obtain ⟨a, C, fI, v, rfl, T, ha, q⟩ := h
    exact ⟨_, pss_one (ps_ost (pv 0) (pv 1)), v, rfl, .ref a, rfl, a, C, rfl, T.o, T.noV, .inl ⟨ha, fun dx n1 n2 => q dx n1 n2⟩⟩
theorem ok_odd {f fO : Addr} {fd fdO : FuncData} {k : Nat} (F : Fun K "_law_odd" "_law_odd" sOdd f fd) (GO : FnOk P w K mg base CX0 k fO fdO ["pot", "some"] (spOf K)) (gO : mg "_law_of" = some (.ref fO)) (kO : PySem.W.keepIn K (.ref fO) = true) (bO : Binds K fdO ["pot", "some"] []) :
    FnOk P w K mg base CX0 (k + 1) f fd ["pot"] spOdd := by
  refine F.ok scOdd (fun vs H Q E h => ?_) (fun cdv A outer s H vs Q E hr h => ?_)
  · obtain ⟨a, N, rfl, _⟩ := h
    rfl
  · obtain ⟨a, N, rfl, hP, hN, q⟩ := h
    refine ⟨_, pss_cons (ps_set (i := 1) scOdd.nd rfl (.inl rfl) (pe_lst (pa_cons pe_non (pa_cons pe_bl (pa_cons pe_bl (pa_cons pe_int (pa_cons (pe_un un_neg pe_int) (pa_cons pe_str (pa_cons pe_str (pa_cons pe_str (pa_cons (pe_tup pa_nil) (pa_cons (pe_lst pa_nil) (pa_cons pe_dnewK (pa_cons (pe_tup (pa_cons (pe_tup pa_nil) pa_nil)) (pa_cons (pe_tup (pa_cons pe_non pa_nil)) (pa_cons (pe_lst (pa_cons pe_int pa_nil)) (pa_cons (pe_tup (pa_cons pe_int pa_nil)) (pa_cons (pe_tup (pa_cons pe_str pa_nil)) (pa_cons (pe_tup (pa_cons (pe_tup (pa_cons pe_int (pa_cons pe_int pa_nil))) pa_nil)) pa_nil)))))))))))))))))))
      (pss_one (ps_ret (pe_call GO hr (by rfl) gO kO bO .nil pass0 (pa_cons (pv 0) (pa_cons (pe_op op_cat (pv 1) (pe_lst (pa_cons (pe_tup (pa_cons pe_str (pa_cons pe_str pa_nil))) (pa_cons (pe_tup (pa_cons (pe_tup (pa_cons pe_str (pa_cons pe_str pa_nil))) pa_nil)) (pa_cons (pe_tup (pa_cons (pe_tup (pa_cons (pe_tup (pa_cons pe_str (pa_cons pe_str pa_nil))) pa_nil)) pa_nil)) (pa_cons (pe_disp (pps_cons pe_str pe_int pps_nil) rfl rfl (by simp) (by decide)) (pa_cons pe_str (pa_cons pe_str pa_nil)))))))) pa_nil))))), ?_⟩
    have hPn := hP.some
    refine r_seq (r_asg (lst_use (ds := odd1) hPn (fun p1 xs1 H1 s1 h1 n1 x1 => ?_) ?m1 (by decide)))
    case m1 =>
      unfold odd1
      repeat' (first | exact mkA_nil | refine mkA_cons ?_ ?_ | exact mk_c rfl | exact mk_neg | exact mk_dnew | exact mk_dict1 | refine mk_tup ?_ (by decide) | refine mk_lst ?_ (by decide))
    refine r_ret (r_call (r_cons (r_var (v := .ref a) rfl (r_cons (r_op (r_var (v := .ref p1) rfl (lst_use (ds := odd2) (same_some s1 hPn) (fun p2 xs2 H2 s2 h2 n2 x2 => ?_) ?m2 (by decide))))))))
    case m2 =>
      unfold odd2
      repeat' (first | exact mkA_nil | refine mkA_cons ?_ ?_ | exact mk_c rfl | exact mk_neg | exact mk_dnew | exact mk_dict1 | refine mk_tup ?_ (by decide) | refine mk_lst ?_ (by decide))
    have l1 := x1.length
    have l2 := x2.length
    have e1 : odd1.length = 17 := rfl
    have e2 : odd2.length = 6 := rfl
    refine ⟨p1, p2, xs1, xs2, rfl, rfl, s2 _ _ h1, h2, Nat.le_of_lt (small1000 (by omega)), fun p hp => ?_⟩
    have s3 : Same H2 (upd H2 p (.lst (xs1 ++ xs2))) := same_upd hp
    have s4 := (s1.trans s2).trans s3
    refine ⟨a, p, xs1 ++ xs2, N, rfl, hP.same s4, hN, sql_of upd_same, fun e => same_some (s1.trans s2) hPn (e ▸ hp), by rw [List.length_append]; omega, by rw [List.length_append]; omega, fun i v H' hv sx hP' => ?_⟩
    obtain ⟨d, hd, xd⟩ := DxAll.at (DxAll.append (DxAll.keep (.of (s2.trans s3)) _ _ x1) (DxAll.keep (.of s3) _ _ x2)) hv
    exact q v d H' (odd_fine d hd) (Dx.keep sx _ _ xd) ((SameX.of s4).trans sx) hP'
end
end Hw

set_option Elab.async false
set_option linter.all false
set_option maxRecDepth 100000
set_option maxHeartbeats 4000000
namespace Hw
open PySem L2 PyProof.Rows
theorem boot_isinstance : bootBuiltins "isinstance" = some (.builtin "isinstance") := by decide +kernel
structure XT (K : PySem.W.Frag) (mg : Str → Option Value) (c : Nat → Addr) (fI : Addr) : Prop where
  g0 : mg "BadWeb" = some (.ref (c 0))
  g1 : mg "BadPlaces" = some (.ref (c 1))
  g2 : mg "BadTies" = some (.ref (c 2))
  g3 : mg "BadPlace" = some (.ref (c 3))
  g4 : mg "NoPlaces" = some (.ref (c 4))
  g5 : mg "BadHistory" = some (.ref (c 5))
  g6 : mg "BadDeed" = some (.ref (c 6))
  g7 : mg "BadNumber" = some (.ref (c 7))
  g8 : mg "NoPlace" = some (.ref (c 8))
  g9 : mg "BadRows" = some (.ref (c 9))
  g10 : mg "BadKind" = some (.ref (c 10))
  g11 : mg "NotWood" = some (.ref (c 11))
  g12 : mg "BadName" = some (.ref (c 12))
  g13 : mg "Held" = some (.ref (c 13))
  g14 : mg "TooMany" = some (.ref (c 14))
  g15 : mg "BadRule" = some (.ref (c 15))
  g16 : mg "BadLimits" = some (.ref (c 16))
  g17 : mg "NotTree" = some (.ref (c 17))
  g18 : mg "NoTree" = some (.ref (c 18))
  g19 : mg "NoThing" = some (.ref (c 19))
  g20 : mg "WrongKind" = some (.ref (c 20))
  g21 : mg "BadPlay" = some (.ref (c 21))
  g22 : mg "NothingToUndo" = some (.ref (c 22))
  g23 : mg "NothingToRedo" = some (.ref (c 23))
  g24 : mg "NoNote" = some (.ref (c 24))
  g25 : mg "BadDesk" = some (.ref (c 25))
  g26 : mg "HealError" = some (.ref (c 26))
  x : ∀ i, i < 27 → XCls K fI (c i)
  k : ∀ i j, i < 27 → j < 26 → PySem.W.kitOne K (.ref (c i)) (.ref (c j)) = some (decide (i = j))
  kH : ∀ i, i < 27 → PySem.W.kitOne K (.ref (c i)) (.ref (c 26)) = some true
  kV : ∀ i, i < 27 → PySem.W.kitOne K (.ref (c i)) (.type "ValueError") = some true
  isi : mg "isinstance" = none
section
variable {t u : TS} {te to : TE} {D : Ends} {σ : L2.St} {H : Hp} {i : Nat} {c : TT} {ta : TA} {K : PySem.W.Frag} {T : String} {r : V → List V → Hp → VK → Prop}
theorem rs_set (h : te σ H fun x H1 => u D (σ.set i (some x)) H1) : tSeq (tAsg te (gName i)) u D σ H := h
theorem rs_bm (h : to σ H fun x H1 => tyV K T x H1 ∧ ta σ H1 fun xs H2 => r x xs H2 fun _ H3 => u D σ H3) : tSeq (tDrop (tBM K T r to ta)) u D σ H := h
theorem rs_ifR (h : c σ H fun b H1 => if b = true then te σ H1 D.rt else u D σ H1) : tSeq (tIfS c (tRet te) tNext) u D σ H := h
theorem r1_ifR (h : c σ H fun b H1 => if b = true then te σ H1 D.rt else D.nx σ H1) : tIfS c (tRet te) tNext D σ H := h
end
/-- such values are such exceptions that hold v -/
def XAll (H : Hp) (v : V) : List Addr → List V → Prop := Paired fun C x => ∃ a d, x = .ref a ∧ XAt H a C d v
theorem XAll.same {H H' : Hp} {v : V} (s : Same H H') {Cs : List Addr} {xs : List V} (h : XAll H v Cs xs) : XAll H' v Cs xs := Paired.mapP h fun _ _ ⟨a, d, e, x⟩ => ⟨a, d, e, x.same s⟩
theorem XAll.put {H : Hp} {v : V} {l : Addr} {ys zs : List V} (hl : H l = some (.lst ys)) {Cs : List Addr} {xs : List V} (h : XAll H v Cs xs) : XAll (upd H l (.lst zs)) v Cs xs := Paired.mapP h fun C _ ⟨a, d, e, x⟩ => by
  refine ⟨a, d, e, x.sameX (p := l) ((SameX.refl l H).put) ?_ ?_⟩
  · exact ne_of x.1 hl (fun z => by have z' : HO.ext _ = HO.lst ys := z; cases z')
  · exact ne_of x.2 hl (fun z => by have z' : HO.ext _ = HO.lst ys := z; cases z')
theorem XAll.append {H : Hp} {v : V} : ∀ {Cs Ds : List Addr} {xs ys : List V}, XAll H v Cs xs → XAll H v Ds ys → XAll H v (Cs ++ Ds) (xs ++ ys)
  | _, _, _, _, .nil, t => t
  | _, _, _, _, .cons a b, t => .cons a (XAll.append b t)
theorem XAll.length {H : Hp} {v : V} {Cs : List Addr} {xs : List V} (h : XAll H v Cs xs) : Cs.length = xs.length := Paired.length h
def MkX (ta : TA) (i : Nat) (Cs : List Addr) : Prop := ∀ (σ : L2.St) (H : Hp) (Q : List V → Hp → Prop) (v : V), σ[i]? = some (some v) → (∀ vs H', Same H H' → XAll H' v Cs vs → Q vs H') → ta σ H Q
theorem mkX_nil {i : Nat} : MkX tNil i [] := fun _ H _ _ _ q => q [] H (Same.refl H) .nil
theorem mkX_cons {ta : TA} {i : Nat} {C : Addr} {Cs : List Addr} (h : MkX ta i Cs) : MkX (tCons (tMkX C (tCons (tVar i) tNil)) ta) i (C :: Cs) := fun σ H Q v e q =>
  r_cons ⟨v, e, v, rfl, fun a d na nd da => h σ _ _ v e fun vs H' s x => q _ H' ((((same_upd (o := exd d [("value", v)]) nd).trans (same_upd (by rw [upd_ne (Ne.symm da)]; exact na))).trans s))
    (.cons ⟨a, d, rfl, s _ _ upd_same, s _ _ (by rw [upd_ne da, upd_same])⟩ x)⟩
theorem lstX_use {ta : TA} {i : Nat} {Cs : List Addr} {v : V} {σ : L2.St} {H : Hp} {Q : VK} (e : σ[i]? = some (some v)) (hl : Cs.length ≤ 1000) (q : ∀ p xs H', Same H H' → H p = none → H' p = some (.lst xs) → XAll H' v Cs xs → Q (.ref p) H') (m : MkX ta i Cs) : tLst ta σ H Q :=
  m σ H _ v e fun vs H1 s1 x1 => ⟨Nat.le_of_lt (small1000 (by rw [← x1.length]; exact hl)), fun p hp => q p vs _ (s1.trans (same_upd hp)) (s1.free hp) upd_same (x1.same (same_upd hp))⟩
/-- the promise of _law_made and its second half -/
def spMade (c : Nat → Addr) (Cs : List Addr) : Sp := fun vs H Q _ => ∃ v, vs = [v] ∧ ∀ p xs H', Same H H' → H p = none → H' p = some (.lst xs) → XAll H' v Cs xs → Q (.ref p) H'
def spKinds (c : Nat → Addr) (js : List Nat) : Sp := fun vs H Q _ => ∃ (a d i : Nat) (v : V), vs = [.ref a] ∧ i < 27 ∧ XAt H a (c i) d v ∧ ∀ p H', Same H H' → H p = none → H' p = some (.lst (js.map fun j => V.bl (decide (i = j)))) → Q (.ref p) H'
section
variable {P : Program} {w : World} {K : PySem.W.Frag} {mg : Str → Option Value} {base : Heap} {c : Nat → Addr} {fI : Addr}
theorem scMade : FnScope ["value", "found"] ["value"] (defScope sMade) := ⟨rfl, rfl, rfl, by decide +kernel, rfl, by decide +kernel, by decide +kernel⟩
theorem scMadeT : FnScope ["value", "found"] ["value"] (defScope sMadeT) := ⟨rfl, rfl, rfl, by decide +kernel, rfl, by decide +kernel, by decide +kernel⟩
theorem scKinds : FnScope ["error", "found"] ["error"] (defScope sKinds) := ⟨rfl, rfl, rfl, by decide +kernel, rfl, by decide +kernel, by decide +kernel⟩
theorem scKindsT : FnScope ["error", "found"] ["error"] (defScope sKindsT) := ⟨rfl, rfl, rfl, by decide +kernel, rfl, by decide +kernel, by decide +kernel⟩
def csA (c : Nat → Addr) : List Addr := ([c 0, c 1, c 2, c 3, c 4] ++ [c 5, c 6, c 7, c 8, c 9]) ++ [c 10, c 11, c 12]
def csB (c : Nat → Addr) : List Addr := ([c 13, c 14, c 15, c 16, c 17, c 18] ++ [c 19, c 20, c 21, c 22, c 23]) ++ [c 24, c 25]
theorem ok_madeT {f : Addr} {fd fdI : FuncData} {k : Nat} (F : Fun K "_law_made_too" "_law_made_too" sMadeT f fd) (T : XT K mg c fI) (GI : FnOk P w K mg base CX0 k fI fdI ["self", "value"] (spIniX K)) (bI : Binds K fdI ["self", "value"] []) :
    FnOk P w K mg base CX0 (k + 2) f fd ["value"] (spMade c (csB c)) := by
  refine F.ok scMadeT (fun vs H Q E h => ?_) (fun cdv A outer s H vs Q E hr1 h => ?_)
  · obtain ⟨v, rfl, _⟩ := h
    rfl
  · obtain ⟨v, rfl, q⟩ := h
    refine ⟨_, pss_cons (ps_set (i := 1) scMadeT.nd rfl (.inl rfl) (pe_lst (pa_cons (pe_mkX (T.x 13 (by decide)) GI hr1 bI (by rfl) T.g13 (pa_cons (pv 0) pa_nil)) (pa_cons (pe_mkX (T.x 14 (by decide)) GI hr1 bI (by rfl) T.g14 (pa_cons (pv 0) pa_nil)) (pa_cons (pe_mkX (T.x 15 (by decide)) GI hr1 bI (by rfl) T.g15 (pa_cons (pv 0) pa_nil)) (pa_cons (pe_mkX (T.x 16 (by decide)) GI hr1 bI (by rfl) T.g16 (pa_cons (pv 0) pa_nil)) (pa_cons (pe_mkX (T.x 17 (by decide)) GI hr1 bI (by rfl) T.g17 (pa_cons (pv 0) pa_nil)) (pa_cons (pe_mkX (T.x 18 (by decide)) GI hr1 bI (by rfl) T.g18 (pa_cons (pv 0) pa_nil)) pa_nil))))))))
      (pss_cons (ps_expr (pe_bm PySem.F.plainAttrs_list PySem.F.slot_list_extend PySem.F.type_list_extend mt_extend (pv 1) (pa_cons (pe_lst (pa_cons (pe_mkX (T.x 19 (by decide)) GI hr1 bI (by rfl) T.g19 (pa_cons (pv 0) pa_nil)) (pa_cons (pe_mkX (T.x 20 (by decide)) GI hr1 bI (by rfl) T.g20 (pa_cons (pv 0) pa_nil)) (pa_cons (pe_mkX (T.x 21 (by decide)) GI hr1 bI (by rfl) T.g21 (pa_cons (pv 0) pa_nil)) (pa_cons (pe_mkX (T.x 22 (by decide)) GI hr1 bI (by rfl) T.g22 (pa_cons (pv 0) pa_nil)) (pa_cons (pe_mkX (T.x 23 (by decide)) GI hr1 bI (by rfl) T.g23 (pa_cons (pv 0) pa_nil)) pa_nil)))))) pa_nil)))
      (pss_cons (ps_expr (pe_bm PySem.F.plainAttrs_list PySem.F.slot_list_extend PySem.F.type_list_extend mt_extend (pv 1) (pa_cons (pe_lst (pa_cons (pe_mkX (T.x 24 (by decide)) GI hr1 bI (by rfl) T.g24 (pa_cons (pv 0) pa_nil)) (pa_cons (pe_mkX (T.x 25 (by decide)) GI hr1 bI (by rfl) T.g25 (pa_cons (pv 0) pa_nil)) pa_nil))) pa_nil)))
      (pss_one (ps_ret (pv 1))))), ?_⟩
    refine rs_set (lstX_use (v := v) rfl (by simp) (fun p1 xs1 H1 s1 n1 h1 x1 => ?_) (mkX_cons (mkX_cons (mkX_cons (mkX_cons (mkX_cons (mkX_cons mkX_nil)))))))
    refine rs_bm (r_var (v := .ref p1) rfl ⟨.inl ⟨rfl, _, .inl (.inl h1)⟩, r_cons (lstX_use (v := v) rfl (by simp) (fun p2 xs2 H2 s2 n2 h2 x2 => ?_) (mkX_cons (mkX_cons (mkX_cons (mkX_cons (mkX_cons mkX_nil))))))⟩)
    refine ⟨p1, p2, xs1, xs2, rfl, rfl, s2 _ _ h1, h2, ?_, ?_⟩
    · refine Nat.le_of_lt (small1000 ?_)
      have e1 := x1.length
      have e2 := x2.length
      simp only [List.length_cons, List.length_nil] at e1 e2
      omega
    have x3 := ((x1.same s2).append x2).put (l := p1) (zs := xs1 ++ xs2) (s2 _ _ h1)
    have s3 : Same H (upd H2 p1 (.lst (xs1 ++ xs2))) := fun b o e => by
      rw [upd_ne (ne_of_none e n1)]; exact s2 _ _ (s1 _ _ e)
    generalize hH3 : upd H2 p1 (.lst (xs1 ++ xs2)) = H3 at x3 s3
    have h3 : H3 p1 = some (.lst (xs1 ++ xs2)) := by rw [← hH3]; exact upd_same
    refine rs_bm (r_var (v := .ref p1) rfl ⟨.inl ⟨rfl, _, .inl (.inl h3)⟩, r_cons (lstX_use (v := v) rfl (by simp) (fun p4 xs4 H4 s4 n4 h4 x4 => ?_) (mkX_cons (mkX_cons mkX_nil)))⟩)
    refine ⟨p1, p4, _, xs4, rfl, rfl, s4 _ _ h3, h4, ?_, ?_⟩
    · refine Nat.le_of_lt (small1000 ?_)
      have e1 := x3.length
      have e2 := x4.length
      simp only [List.length_append, List.length_cons, List.length_nil] at e1 e2 ⊢
      omega
    have x9 := ((x3.same s4).append x4).put (l := p1) (zs := (xs1 ++ xs2) ++ xs4) (s4 _ _ h3)
    have s9 : Same H (upd H4 p1 (.lst ((xs1 ++ xs2) ++ xs4))) := fun b o e => by
      rw [upd_ne (ne_of_none e n1)]; exact s4 _ _ (s3 _ _ e)
    exact r_ret (r_var rfl (q p1 _ _ s9 n1 upd_same x9))
theorem ok_made {f f2 : Addr} {fd fdI fd2 : FuncData} {k : Nat} (F : Fun K "_law_made" "_law_made" sMade f fd) (T : XT K mg c fI) (GI : FnOk P w K mg base CX0 k fI fdI ["self", "value"] (spIniX K)) (bI : Binds K fdI ["self", "value"] [])
    (G2 : FnOk P w K mg base CX0 (k + 2) f2 fd2 ["value"] (spMade c (csB c))) (g2 : mg "_law_made_too" = some (.ref f2)) (k2 : PySem.W.keepIn K (.ref f2) = true) (b2 : Binds K fd2 ["value"] []) :
    FnOk P w K mg base CX0 (k + 3) f fd ["value"] (spMade c (csA c ++ csB c)) := by
  refine F.ok scMade (fun vs H Q E h => ?_) (fun cdv A outer s H vs Q E hr h => ?_)
  · obtain ⟨v, rfl, _⟩ := h
    rfl
  · obtain ⟨v, rfl, q⟩ := h
    have hr1 := hr.mono (show k + 1 ≤ k + 2 by omega)
    refine ⟨_, pss_cons (ps_set (i := 1) scMade.nd rfl (.inl rfl) (pe_lst (pa_cons (pe_mkX (T.x 0 (by decide)) GI hr1 bI (by rfl) T.g0 (pa_cons (pv 0) pa_nil)) (pa_cons (pe_mkX (T.x 1 (by decide)) GI hr1 bI (by rfl) T.g1 (pa_cons (pv 0) pa_nil)) (pa_cons (pe_mkX (T.x 2 (by decide)) GI hr1 bI (by rfl) T.g2 (pa_cons (pv 0) pa_nil)) (pa_cons (pe_mkX (T.x 3 (by decide)) GI hr1 bI (by rfl) T.g3 (pa_cons (pv 0) pa_nil)) (pa_cons (pe_mkX (T.x 4 (by decide)) GI hr1 bI (by rfl) T.g4 (pa_cons (pv 0) pa_nil)) pa_nil)))))))
      (pss_cons (ps_expr (pe_bm PySem.F.plainAttrs_list PySem.F.slot_list_extend PySem.F.type_list_extend mt_extend (pv 1) (pa_cons (pe_lst (pa_cons (pe_mkX (T.x 5 (by decide)) GI hr1 bI (by rfl) T.g5 (pa_cons (pv 0) pa_nil)) (pa_cons (pe_mkX (T.x 6 (by decide)) GI hr1 bI (by rfl) T.g6 (pa_cons (pv 0) pa_nil)) (pa_cons (pe_mkX (T.x 7 (by decide)) GI hr1 bI (by rfl) T.g7 (pa_cons (pv 0) pa_nil)) (pa_cons (pe_mkX (T.x 8 (by decide)) GI hr1 bI (by rfl) T.g8 (pa_cons (pv 0) pa_nil)) (pa_cons (pe_mkX (T.x 9 (by decide)) GI hr1 bI (by rfl) T.g9 (pa_cons (pv 0) pa_nil)) pa_nil)))))) pa_nil)))
      (pss_cons (ps_expr (pe_bm PySem.F.plainAttrs_list PySem.F.slot_list_extend PySem.F.type_list_extend mt_extend (pv 1) (pa_cons (pe_lst (pa_cons (pe_mkX (T.x 10 (by decide)) GI hr1 bI (by rfl) T.g10 (pa_cons (pv 0) pa_nil)) (pa_cons (pe_mkX (T.x 11 (by decide)) GI hr1 bI (by rfl) T.g11 (pa_cons (pv 0) pa_nil)) (pa_cons (pe_mkX (T.x 12 (by decide)) GI hr1 bI (by rfl) T.g12 (pa_cons (pv 0) pa_nil)) pa_nil)))) pa_nil)))
      (pss_one (ps_ret (pe_op op_cat (pv 1) (pe_call G2 hr (by rfl) g2 k2 b2 .nil pass0 (pa_cons (pv 0) pa_nil))))))), ?_⟩
    refine rs_set (lstX_use (v := v) rfl (by simp) (fun p1 xs1 H1 s1 n1 h1 x1 => ?_) (mkX_cons (mkX_cons (mkX_cons (mkX_cons (mkX_cons mkX_nil))))))
    refine rs_bm (r_var (v := .ref p1) rfl ⟨.inl ⟨rfl, _, .inl (.inl h1)⟩, r_cons (lstX_use (v := v) rfl (by simp) (fun p2 xs2 H2 s2 n2 h2 x2 => ?_) (mkX_cons (mkX_cons (mkX_cons (mkX_cons (mkX_cons mkX_nil))))))⟩)
    refine ⟨p1, p2, xs1, xs2, rfl, rfl, s2 _ _ h1, h2, ?_, ?_⟩
    · refine Nat.le_of_lt (small1000 ?_)
      have e1 := x1.length
      have e2 := x2.length
      simp only [List.length_cons, List.length_nil] at e1 e2
      omega
    have x3 := ((x1.same s2).append x2).put (l := p1) (zs := xs1 ++ xs2) (s2 _ _ h1)
    have s3 : Same H (upd H2 p1 (.lst (xs1 ++ xs2))) := fun b o e => by
      rw [upd_ne (ne_of_none e n1)]; exact s2 _ _ (s1 _ _ e)
    generalize hH3 : upd H2 p1 (.lst (xs1 ++ xs2)) = H3 at x3 s3
    have h3 : H3 p1 = some (.lst (xs1 ++ xs2)) := by rw [← hH3]; exact upd_same
    refine rs_bm (r_var (v := .ref p1) rfl ⟨.inl ⟨rfl, _, .inl (.inl h3)⟩, r_cons (lstX_use (v := v) rfl (by simp) (fun p4 xs4 H4 s4 n4 h4 x4 => ?_) (mkX_cons (mkX_cons (mkX_cons mkX_nil))))⟩)
    refine ⟨p1, p4, _, xs4, rfl, rfl, s4 _ _ h3, h4, ?_, ?_⟩
    · refine Nat.le_of_lt (small1000 ?_)
      have e1 := x3.length
      have e2 := x4.length
      simp only [List.length_append, List.length_cons, List.length_nil] at e1 e2 ⊢
      omega
    have x9 := ((x3.same s4).append x4).put (l := p1) (zs := (xs1 ++ xs2) ++ xs4) (s4 _ _ h3)
    have s9 : Same H (upd H4 p1 (.lst ((xs1 ++ xs2) ++ xs4))) := fun b o e => by
      rw [upd_ne (ne_of_none e n1)]; exact s4 _ _ (s3 _ _ e)
    refine r_ret (r_op (r_var rfl (r_call (r_cons (r_var (v := v) rfl ⟨v, rfl, fun p2 ys H2 t2 m2 hp2 y2 => ?_⟩)))))
    refine ⟨p1, p2, _, ys, rfl, rfl, t2 _ _ upd_same, hp2, ?_, fun p hp => ?_⟩
    · refine Nat.le_of_lt (small1000 ?_)
      have e1 := x9.length
      have e2 := y2.length
      simp only [List.length_append, csA, csB, List.length_cons, List.length_nil] at e1 e2 ⊢
      omega
    · exact q p _ _ ((s9.trans t2).trans (same_upd hp)) ((s9.trans t2).free hp) upd_same (((x9.same t2).append y2).same (same_upd hp))
end
theorem XAt.putL {H : Hp} {a C d l : Addr} {v : V} {ys zs : List V} (x : XAt H a C d v) (hl : H l = some (.lst ys)) : XAt (upd H l (.lst zs)) a C d v :=
  x.sameX (p := l) ((SameX.refl l H).put) (ne_of x.1 hl (fun z => by have z' : HO.ext _ = HO.lst ys := z; cases z')) (ne_of x.2 hl (fun z => by have z' : HO.ext _ = HO.lst ys := z; cases z'))
def MkB (ta : TA) (σ : L2.St) (H : Hp) (bs : List Bool) : Prop := ∀ Q : List V → Hp → Prop, Q (bs.map V.bl) H → ta σ H Q
theorem mkB_nil {σ : L2.St} {H : Hp} : MkB tNil σ H [] := fun _ q => q
theorem mkB_cons {te : TE} {ta : TA} {σ : L2.St} {H : Hp} {b1 : Bool} {bs : List Bool} (h1 : ∀ Q : VK, Q (.bl b1) H → te σ H Q) (h2 : MkB ta σ H bs) : MkB (tCons te ta) σ H (b1 :: bs) := fun Q q => h1 _ (h2 _ q)
theorem lstB_use {ta : TA} {js : List Nat} {i : Nat} {a d C : Addr} {v : V} {σ : L2.St} {H : Hp} {Q : VK} (hl : js.length ≤ 1000) (hx : XAt H a C d v)
    (q : ∀ p H', Same H H' → H p = none → H' p = some (.lst (js.map fun j => V.bl (decide (i = j)))) → XAt H' a C d v → Q (.ref p) H') (m : ∀ H, XAt H a C d v → MkB ta σ H (js.map fun j => decide (i = j))) : tLst ta σ H Q :=
  m H hx _ ⟨Nat.le_of_lt (small1000 (by simpa using hl)), fun p hp => by
    have e : (js.map fun j => decide (i = j)).map V.bl = js.map fun j => V.bl (decide (i = j)) := by rw [List.map_map]; rfl
    rw [e]
    exact q p _ (same_upd hp) hp upd_same (hx.same (same_upd hp))⟩
section
variable {P : Program} {w : World} {K : PySem.W.Frag} {mg : Str → Option Value} {base : Heap} {c : Nat → Addr} {fI : Addr}
theorem ok_kindsT {f : Addr} {fd : FuncData} {k : Nat} (F : Fun K "_law_kinds_too" "_law_kinds_too" sKindsT f fd) (T : XT K mg c fI) :
    FnOk P w K mg base CX0 (k + 1) f fd ["error"] (spKinds c (((([13, 14, 15] ++ [16, 17, 18]) ++ [19, 20, 21]) ++ [22, 23, 24]) ++ [25])) := by
  refine F.ok scKindsT (fun vs H Q E h => ?_) (fun cdv A outer s H vs Q E hr h => ?_)
  · obtain ⟨a, d, i, v, rfl, _⟩ := h
    rfl
  · obtain ⟨a, d, i, v, rfl, hi, hx, q⟩ := h
    refine ⟨_, pss_cons (ps_set (i := 1) scKindsT.nd rfl (.inl rfl) (pe_lst (pa_cons (pe_callB call_isX (by rfl) T.isi boot_isinstance (pa_cons (pv 0) (pa_cons (pe_glob (v := .ref (c 13)) (by rfl) T.g13 rfl) pa_nil))) (pa_cons (pe_callB call_isX (by rfl) T.isi boot_isinstance (pa_cons (pv 0) (pa_cons (pe_glob (v := .ref (c 14)) (by rfl) T.g14 rfl) pa_nil))) (pa_cons (pe_callB call_isX (by rfl) T.isi boot_isinstance (pa_cons (pv 0) (pa_cons (pe_glob (v := .ref (c 15)) (by rfl) T.g15 rfl) pa_nil))) pa_nil)))))
      (pss_cons (ps_expr (pe_bm PySem.F.plainAttrs_list PySem.F.slot_list_extend PySem.F.type_list_extend mt_extend (pv 1) (pa_cons (pe_lst (pa_cons (pe_callB call_isX (by rfl) T.isi boot_isinstance (pa_cons (pv 0) (pa_cons (pe_glob (v := .ref (c 16)) (by rfl) T.g16 rfl) pa_nil))) (pa_cons (pe_callB call_isX (by rfl) T.isi boot_isinstance (pa_cons (pv 0) (pa_cons (pe_glob (v := .ref (c 17)) (by rfl) T.g17 rfl) pa_nil))) (pa_cons (pe_callB call_isX (by rfl) T.isi boot_isinstance (pa_cons (pv 0) (pa_cons (pe_glob (v := .ref (c 18)) (by rfl) T.g18 rfl) pa_nil))) pa_nil)))) pa_nil)))
      (pss_cons (ps_expr (pe_bm PySem.F.plainAttrs_list PySem.F.slot_list_extend PySem.F.type_list_extend mt_extend (pv 1) (pa_cons (pe_lst (pa_cons (pe_callB call_isX (by rfl) T.isi boot_isinstance (pa_cons (pv 0) (pa_cons (pe_glob (v := .ref (c 19)) (by rfl) T.g19 rfl) pa_nil))) (pa_cons (pe_callB call_isX (by rfl) T.isi boot_isinstance (pa_cons (pv 0) (pa_cons (pe_glob (v := .ref (c 20)) (by rfl) T.g20 rfl) pa_nil))) (pa_cons (pe_callB call_isX (by rfl) T.isi boot_isinstance (pa_cons (pv 0) (pa_cons (pe_glob (v := .ref (c 21)) (by rfl) T.g21 rfl) pa_nil))) pa_nil)))) pa_nil)))
      (pss_cons (ps_expr (pe_bm PySem.F.plainAttrs_list PySem.F.slot_list_extend PySem.F.type_list_extend mt_extend (pv 1) (pa_cons (pe_lst (pa_cons (pe_callB call_isX (by rfl) T.isi boot_isinstance (pa_cons (pv 0) (pa_cons (pe_glob (v := .ref (c 22)) (by rfl) T.g22 rfl) pa_nil))) (pa_cons (pe_callB call_isX (by rfl) T.isi boot_isinstance (pa_cons (pv 0) (pa_cons (pe_glob (v := .ref (c 23)) (by rfl) T.g23 rfl) pa_nil))) (pa_cons (pe_callB call_isX (by rfl) T.isi boot_isinstance (pa_cons (pv 0) (pa_cons (pe_glob (v := .ref (c 24)) (by rfl) T.g24 rfl) pa_nil))) pa_nil)))) pa_nil)))
      (pss_cons (ps_expr (pe_bm PySem.F.plainAttrs_list PySem.F.slot_list_extend PySem.F.type_list_extend mt_extend (pv 1) (pa_cons (pe_lst (pa_cons (pe_callB call_isX (by rfl) T.isi boot_isinstance (pa_cons (pv 0) (pa_cons (pe_glob (v := .ref (c 25)) (by rfl) T.g25 rfl) pa_nil))) pa_nil)) pa_nil)))
      (pss_one (ps_ret (pv 1))))))), ?_⟩
    refine rs_set (lstB_use (js := [13, 14, 15]) (i := i) (v := v) (a := a) (d := d) (by simp) hx (fun p1 H1 s1 n1 h1 x1 => ?_) (fun H hx => (mkB_cons (b1 := decide (i = 13)) (fun Q q => ⟨.ref a, rfl, a, c i, d, fI, v, .ref (c 13), .ref (c 13), decide (i = 13), rfl, .own _, T.x i hi, hx, T.k i 13 hi (by decide), q⟩) (mkB_cons (b1 := decide (i = 14)) (fun Q q => ⟨.ref a, rfl, a, c i, d, fI, v, .ref (c 14), .ref (c 14), decide (i = 14), rfl, .own _, T.x i hi, hx, T.k i 14 hi (by decide), q⟩) (mkB_cons (b1 := decide (i = 15)) (fun Q q => ⟨.ref a, rfl, a, c i, d, fI, v, .ref (c 15), .ref (c 15), decide (i = 15), rfl, .own _, T.x i hi, hx, T.k i 15 hi (by decide), q⟩) mkB_nil)))))
    refine rs_bm (r_var (v := .ref p1) rfl ⟨.inl ⟨rfl, _, .inl (.inl h1)⟩, ?_⟩)
    refine r_cons (lstB_use (js := [16, 17, 18]) (i := i) (v := v) (a := a) (d := d) (by simp) x1 (fun pz Hz sz nz hz xz => ?_) ?mm)
    case mm => exact fun H hx => (mkB_cons (b1 := decide (i = 16)) (fun Q q => ⟨.ref a, rfl, a, c i, d, fI, v, .ref (c 16), .ref (c 16), decide (i = 16), rfl, .own _, T.x i hi, hx, T.k i 16 hi (by decide), q⟩) (mkB_cons (b1 := decide (i = 17)) (fun Q q => ⟨.ref a, rfl, a, c i, d, fI, v, .ref (c 17), .ref (c 17), decide (i = 17), rfl, .own _, T.x i hi, hx, T.k i 17 hi (by decide), q⟩) (mkB_cons (b1 := decide (i = 18)) (fun Q q => ⟨.ref a, rfl, a, c i, d, fI, v, .ref (c 18), .ref (c 18), decide (i = 18), rfl, .own _, T.x i hi, hx, T.k i 18 hi (by decide), q⟩) mkB_nil)))
    refine ⟨p1, pz, _, _, rfl, rfl, sz _ _ h1, hz, ?_, ?_⟩
    · exact Nat.le_of_lt (small1000 (by simp))
    have x2 : XAt (upd Hz p1 (.lst (([13, 14, 15].map fun j => V.bl (decide (i = j))) ++ ([16, 17, 18].map fun j => V.bl (decide (i = j)))))) a (c i) d v := XAt.putL xz (sz _ _ h1)
    have s2 : Same H (upd Hz p1 (.lst (([13, 14, 15].map fun j => V.bl (decide (i = j))) ++ ([16, 17, 18].map fun j => V.bl (decide (i = j)))))) := fun b o e => by
      rw [upd_ne (ne_of_none e n1)]; exact sz _ _ (s1 _ _ e)
    have h2 : (upd Hz p1 (.lst (([13, 14, 15].map fun j => V.bl (decide (i = j))) ++ ([16, 17, 18].map fun j => V.bl (decide (i = j)))))) p1 = some (.lst (([13, 14, 15] ++ [16, 17, 18]).map fun j => V.bl (decide (i = j)))) := by rw [List.map_append]; exact upd_same
    generalize (upd Hz p1 (.lst (([13, 14, 15].map fun j => V.bl (decide (i = j))) ++ ([16, 17, 18].map fun j => V.bl (decide (i = j)))))) = H2' at x2 s2 h2 ⊢
    refine rs_bm (r_var (v := .ref p1) rfl ⟨.inl ⟨rfl, _, .inl (.inl h2)⟩, ?_⟩)
    refine r_cons (lstB_use (js := [19, 20, 21]) (i := i) (v := v) (a := a) (d := d) (by simp) x2 (fun pz Hz sz nz hz xz => ?_) ?mm)
    case mm => exact fun H hx => (mkB_cons (b1 := decide (i = 19)) (fun Q q => ⟨.ref a, rfl, a, c i, d, fI, v, .ref (c 19), .ref (c 19), decide (i = 19), rfl, .own _, T.x i hi, hx, T.k i 19 hi (by decide), q⟩) (mkB_cons (b1 := decide (i = 20)) (fun Q q => ⟨.ref a, rfl, a, c i, d, fI, v, .ref (c 20), .ref (c 20), decide (i = 20), rfl, .own _, T.x i hi, hx, T.k i 20 hi (by decide), q⟩) (mkB_cons (b1 := decide (i = 21)) (fun Q q => ⟨.ref a, rfl, a, c i, d, fI, v, .ref (c 21), .ref (c 21), decide (i = 21), rfl, .own _, T.x i hi, hx, T.k i 21 hi (by decide), q⟩) mkB_nil)))
    refine ⟨p1, pz, _, _, rfl, rfl, sz _ _ h2, hz, ?_, ?_⟩
    · exact Nat.le_of_lt (small1000 (by simp))
    have x3 : XAt (upd Hz p1 (.lst ((([13, 14, 15] ++ [16, 17, 18]).map fun j => V.bl (decide (i = j))) ++ ([19, 20, 21].map fun j => V.bl (decide (i = j)))))) a (c i) d v := XAt.putL xz (sz _ _ h2)
    have s3 : Same H (upd Hz p1 (.lst ((([13, 14, 15] ++ [16, 17, 18]).map fun j => V.bl (decide (i = j))) ++ ([19, 20, 21].map fun j => V.bl (decide (i = j)))))) := fun b o e => by
      rw [upd_ne (ne_of_none e n1)]; exact sz _ _ (s2 _ _ e)
    have h3 : (upd Hz p1 (.lst ((([13, 14, 15] ++ [16, 17, 18]).map fun j => V.bl (decide (i = j))) ++ ([19, 20, 21].map fun j => V.bl (decide (i = j)))))) p1 = some (.lst ((([13, 14, 15] ++ [16, 17, 18]) ++ [19, 20, 21]).map fun j => V.bl (decide (i = j)))) := by rw [List.map_append]; exact upd_same
    generalize (upd Hz p1 (.lst ((([13, 14, 15] ++ [16, 17, 18]).map fun j => V.bl (decide (i = j))) ++ ([19, 20, 21].map fun j => V.bl (decide (i = j)))))) = H3' at x3 s3 h3 ⊢
    refine rs_bm (r_var (v := .ref p1) rfl ⟨.inl ⟨rfl, _, .inl (.inl h3)⟩, ?_⟩)
    refine r_cons (lstB_use (js := [22, 23, 24]) (i := i) (v := v) (a := a) (d := d) (by simp) x3 (fun pz Hz sz nz hz xz => ?_) ?mm)
    case mm => exact fun H hx => (mkB_cons (b1 := decide (i = 22)) (fun Q q => ⟨.ref a, rfl, a, c i, d, fI, v, .ref (c 22), .ref (c 22), decide (i = 22), rfl, .own _, T.x i hi, hx, T.k i 22 hi (by decide), q⟩) (mkB_cons (b1 := decide (i = 23)) (fun Q q => ⟨.ref a, rfl, a, c i, d, fI, v, .ref (c 23), .ref (c 23), decide (i = 23), rfl, .own _, T.x i hi, hx, T.k i 23 hi (by decide), q⟩) (mkB_cons (b1 := decide (i = 24)) (fun Q q => ⟨.ref a, rfl, a, c i, d, fI, v, .ref (c 24), .ref (c 24), decide (i = 24), rfl, .own _, T.x i hi, hx, T.k i 24 hi (by decide), q⟩) mkB_nil)))
    refine ⟨p1, pz, _, _, rfl, rfl, sz _ _ h3, hz, ?_, ?_⟩
    · exact Nat.le_of_lt (small1000 (by simp))
    have x4 : XAt (upd Hz p1 (.lst (((([13, 14, 15] ++ [16, 17, 18]) ++ [19, 20, 21]).map fun j => V.bl (decide (i = j))) ++ ([22, 23, 24].map fun j => V.bl (decide (i = j)))))) a (c i) d v := XAt.putL xz (sz _ _ h3)
    have s4 : Same H (upd Hz p1 (.lst (((([13, 14, 15] ++ [16, 17, 18]) ++ [19, 20, 21]).map fun j => V.bl (decide (i = j))) ++ ([22, 23, 24].map fun j => V.bl (decide (i = j)))))) := fun b o e => by
      rw [upd_ne (ne_of_none e n1)]; exact sz _ _ (s3 _ _ e)
    have h4 : (upd Hz p1 (.lst (((([13, 14, 15] ++ [16, 17, 18]) ++ [19, 20, 21]).map fun j => V.bl (decide (i = j))) ++ ([22, 23, 24].map fun j => V.bl (decide (i = j)))))) p1 = some (.lst (((([13, 14, 15] ++ [16, 17, 18]) ++ [19, 20, 21]) ++ [22, 23, 24]).map fun j => V.bl (decide (i = j)))) := by rw [List.map_append]; exact upd_same
    generalize (upd Hz p1 (.lst (((([13, 14, 15] ++ [16, 17, 18]) ++ [19, 20, 21]).map fun j => V.bl (decide (i = j))) ++ ([22, 23, 24].map fun j => V.bl (decide (i = j)))))) = H4' at x4 s4 h4 ⊢
    refine rs_bm (r_var (v := .ref p1) rfl ⟨.inl ⟨rfl, _, .inl (.inl h4)⟩, ?_⟩)
    refine r_cons (lstB_use (js := [25]) (i := i) (v := v) (a := a) (d := d) (by simp) x4 (fun pz Hz sz nz hz xz => ?_) ?mm)
    case mm => exact fun H hx => (mkB_cons (b1 := decide (i = 25)) (fun Q q => ⟨.ref a, rfl, a, c i, d, fI, v, .ref (c 25), .ref (c 25), decide (i = 25), rfl, .own _, T.x i hi, hx, T.k i 25 hi (by decide), q⟩) mkB_nil)
    refine ⟨p1, pz, _, _, rfl, rfl, sz _ _ h4, hz, ?_, ?_⟩
    · exact Nat.le_of_lt (small1000 (by simp))
    have x5 : XAt (upd Hz p1 (.lst ((((([13, 14, 15] ++ [16, 17, 18]) ++ [19, 20, 21]) ++ [22, 23, 24]).map fun j => V.bl (decide (i = j))) ++ ([25].map fun j => V.bl (decide (i = j)))))) a (c i) d v := XAt.putL xz (sz _ _ h4)
    have s5 : Same H (upd Hz p1 (.lst ((((([13, 14, 15] ++ [16, 17, 18]) ++ [19, 20, 21]) ++ [22, 23, 24]).map fun j => V.bl (decide (i = j))) ++ ([25].map fun j => V.bl (decide (i = j)))))) := fun b o e => by
      rw [upd_ne (ne_of_none e n1)]; exact sz _ _ (s4 _ _ e)
    have h5 : (upd Hz p1 (.lst ((((([13, 14, 15] ++ [16, 17, 18]) ++ [19, 20, 21]) ++ [22, 23, 24]).map fun j => V.bl (decide (i = j))) ++ ([25].map fun j => V.bl (decide (i = j)))))) p1 = some (.lst ((((([13, 14, 15] ++ [16, 17, 18]) ++ [19, 20, 21]) ++ [22, 23, 24]) ++ [25]).map fun j => V.bl (decide (i = j)))) := by rw [List.map_append]; exact upd_same
    generalize (upd Hz p1 (.lst ((((([13, 14, 15] ++ [16, 17, 18]) ++ [19, 20, 21]) ++ [22, 23, 24]).map fun j => V.bl (decide (i = j))) ++ ([25].map fun j => V.bl (decide (i = j)))))) = H5' at x5 s5 h5 ⊢

    exact r_ret (r_var rfl (q p1 _ s5 n1 h5))
theorem ok_kinds {f f2 : Addr} {fd fd2 : FuncData} {k : Nat} (F : Fun K "_law_kinds" "_law_kinds" sKinds f fd) (T : XT K mg c fI) (G2 : FnOk P w K mg base CX0 k f2 fd2 ["error"] (spKinds c (((([13, 14, 15] ++ [16, 17, 18]) ++ [19, 20, 21]) ++ [22, 23, 24]) ++ [25]))) (g2 : mg "_law_kinds_too" = some (.ref f2)) (k2 : PySem.W.keepIn K (.ref f2) = true) (b2 : Binds K fd2 ["error"] []) :
    FnOk P w K mg base CX0 (k + 1) f fd ["error"] (spKinds c (List.range 26)) := by
  refine F.ok scKinds (fun vs H Q E h => ?_) (fun cdv A outer s H vs Q E hr h => ?_)
  · obtain ⟨a, d, i, v, rfl, _⟩ := h
    rfl
  · obtain ⟨a, d, i, v, rfl, hi, hx, q⟩ := h
    refine ⟨_, pss_cons (ps_set (i := 1) scKinds.nd rfl (.inl rfl) (pe_lst (pa_cons (pe_callB call_isX (by rfl) T.isi boot_isinstance (pa_cons (pv 0) (pa_cons (pe_glob (v := .ref (c 0)) (by rfl) T.g0 rfl) pa_nil))) (pa_cons (pe_callB call_isX (by rfl) T.isi boot_isinstance (pa_cons (pv 0) (pa_cons (pe_glob (v := .ref (c 1)) (by rfl) T.g1 rfl) pa_nil))) (pa_cons (pe_callB call_isX (by rfl) T.isi boot_isinstance (pa_cons (pv 0) (pa_cons (pe_glob (v := .ref (c 2)) (by rfl) T.g2 rfl) pa_nil))) pa_nil)))))
      (pss_cons (ps_expr (pe_bm PySem.F.plainAttrs_list PySem.F.slot_list_extend PySem.F.type_list_extend mt_extend (pv 1) (pa_cons (pe_lst (pa_cons (pe_callB call_isX (by rfl) T.isi boot_isinstance (pa_cons (pv 0) (pa_cons (pe_glob (v := .ref (c 3)) (by rfl) T.g3 rfl) pa_nil))) (pa_cons (pe_callB call_isX (by rfl) T.isi boot_isinstance (pa_cons (pv 0) (pa_cons (pe_glob (v := .ref (c 4)) (by rfl) T.g4 rfl) pa_nil))) (pa_cons (pe_callB call_isX (by rfl) T.isi boot_isinstance (pa_cons (pv 0) (pa_cons (pe_glob (v := .ref (c 5)) (by rfl) T.g5 rfl) pa_nil))) pa_nil)))) pa_nil)))
      (pss_cons (ps_expr (pe_bm PySem.F.plainAttrs_list PySem.F.slot_list_extend PySem.F.type_list_extend mt_extend (pv 1) (pa_cons (pe_lst (pa_cons (pe_callB call_isX (by rfl) T.isi boot_isinstance (pa_cons (pv 0) (pa_cons (pe_glob (v := .ref (c 6)) (by rfl) T.g6 rfl) pa_nil))) (pa_cons (pe_callB call_isX (by rfl) T.isi boot_isinstance (pa_cons (pv 0) (pa_cons (pe_glob (v := .ref (c 7)) (by rfl) T.g7 rfl) pa_nil))) (pa_cons (pe_callB call_isX (by rfl) T.isi boot_isinstance (pa_cons (pv 0) (pa_cons (pe_glob (v := .ref (c 8)) (by rfl) T.g8 rfl) pa_nil))) pa_nil)))) pa_nil)))
      (pss_cons (ps_expr (pe_bm PySem.F.plainAttrs_list PySem.F.slot_list_extend PySem.F.type_list_extend mt_extend (pv 1) (pa_cons (pe_lst (pa_cons (pe_callB call_isX (by rfl) T.isi boot_isinstance (pa_cons (pv 0) (pa_cons (pe_glob (v := .ref (c 9)) (by rfl) T.g9 rfl) pa_nil))) (pa_cons (pe_callB call_isX (by rfl) T.isi boot_isinstance (pa_cons (pv 0) (pa_cons (pe_glob (v := .ref (c 10)) (by rfl) T.g10 rfl) pa_nil))) (pa_cons (pe_callB call_isX (by rfl) T.isi boot_isinstance (pa_cons (pv 0) (pa_cons (pe_glob (v := .ref (c 11)) (by rfl) T.g11 rfl) pa_nil))) pa_nil)))) pa_nil)))
      (pss_cons (ps_expr (pe_bm PySem.F.plainAttrs_list PySem.F.slot_list_extend PySem.F.type_list_extend mt_extend (pv 1) (pa_cons (pe_lst (pa_cons (pe_callB call_isX (by rfl) T.isi boot_isinstance (pa_cons (pv 0) (pa_cons (pe_glob (v := .ref (c 12)) (by rfl) T.g12 rfl) pa_nil))) pa_nil)) pa_nil)))
      (pss_one (ps_ret (pe_op op_cat (pv 1) (pe_call G2 hr (by rfl) g2 k2 b2 .nil pass0 (pa_cons (pv 0) pa_nil))))))))), ?_⟩
    refine rs_set (lstB_use (js := [0, 1, 2]) (i := i) (v := v) (a := a) (d := d) (by simp) hx (fun p1 H1 s1 n1 h1 x1 => ?_) (fun H hx => (mkB_cons (b1 := decide (i = 0)) (fun Q q => ⟨.ref a, rfl, a, c i, d, fI, v, .ref (c 0), .ref (c 0), decide (i = 0), rfl, .own _, T.x i hi, hx, T.k i 0 hi (by decide), q⟩) (mkB_cons (b1 := decide (i = 1)) (fun Q q => ⟨.ref a, rfl, a, c i, d, fI, v, .ref (c 1), .ref (c 1), decide (i = 1), rfl, .own _, T.x i hi, hx, T.k i 1 hi (by decide), q⟩) (mkB_cons (b1 := decide (i = 2)) (fun Q q => ⟨.ref a, rfl, a, c i, d, fI, v, .ref (c 2), .ref (c 2), decide (i = 2), rfl, .own _, T.x i hi, hx, T.k i 2 hi (by decide), q⟩) mkB_nil)))))
    refine rs_bm (r_var (v := .ref p1) rfl ⟨.inl ⟨rfl, _, .inl (.inl h1)⟩, ?_⟩)
    refine r_cons (lstB_use (js := [3, 4, 5]) (i := i) (v := v) (a := a) (d := d) (by simp) x1 (fun pz Hz sz nz hz xz => ?_) ?mm)
    case mm => exact fun H hx => (mkB_cons (b1 := decide (i = 3)) (fun Q q => ⟨.ref a, rfl, a, c i, d, fI, v, .ref (c 3), .ref (c 3), decide (i = 3), rfl, .own _, T.x i hi, hx, T.k i 3 hi (by decide), q⟩) (mkB_cons (b1 := decide (i = 4)) (fun Q q => ⟨.ref a, rfl, a, c i, d, fI, v, .ref (c 4), .ref (c 4), decide (i = 4), rfl, .own _, T.x i hi, hx, T.k i 4 hi (by decide), q⟩) (mkB_cons (b1 := decide (i = 5)) (fun Q q => ⟨.ref a, rfl, a, c i, d, fI, v, .ref (c 5), .ref (c 5), decide (i = 5), rfl, .own _, T.x i hi, hx, T.k i 5 hi (by decide), q⟩) mkB_nil)))
    refine ⟨p1, pz, _, _, rfl, rfl, sz _ _ h1, hz, ?_, ?_⟩
    · exact Nat.le_of_lt (small1000 (by simp))
    have x2 : XAt (upd Hz p1 (.lst (([0, 1, 2].map fun j => V.bl (decide (i = j))) ++ ([3, 4, 5].map fun j => V.bl (decide (i = j)))))) a (c i) d v := XAt.putL xz (sz _ _ h1)
    have s2 : Same H (upd Hz p1 (.lst (([0, 1, 2].map fun j => V.bl (decide (i = j))) ++ ([3, 4, 5].map fun j => V.bl (decide (i = j)))))) := fun b o e => by
      rw [upd_ne (ne_of_none e n1)]; exact sz _ _ (s1 _ _ e)
    have h2 : (upd Hz p1 (.lst (([0, 1, 2].map fun j => V.bl (decide (i = j))) ++ ([3, 4, 5].map fun j => V.bl (decide (i = j)))))) p1 = some (.lst (([0, 1, 2] ++ [3, 4, 5]).map fun j => V.bl (decide (i = j)))) := by rw [List.map_append]; exact upd_same
    generalize (upd Hz p1 (.lst (([0, 1, 2].map fun j => V.bl (decide (i = j))) ++ ([3, 4, 5].map fun j => V.bl (decide (i = j)))))) = H2' at x2 s2 h2 ⊢
    refine rs_bm (r_var (v := .ref p1) rfl ⟨.inl ⟨rfl, _, .inl (.inl h2)⟩, ?_⟩)
    refine r_cons (lstB_use (js := [6, 7, 8]) (i := i) (v := v) (a := a) (d := d) (by simp) x2 (fun pz Hz sz nz hz xz => ?_) ?mm)
    case mm => exact fun H hx => (mkB_cons (b1 := decide (i = 6)) (fun Q q => ⟨.ref a, rfl, a, c i, d, fI, v, .ref (c 6), .ref (c 6), decide (i = 6), rfl, .own _, T.x i hi, hx, T.k i 6 hi (by decide), q⟩) (mkB_cons (b1 := decide (i = 7)) (fun Q q => ⟨.ref a, rfl, a, c i, d, fI, v, .ref (c 7), .ref (c 7), decide (i = 7), rfl, .own _, T.x i hi, hx, T.k i 7 hi (by decide), q⟩) (mkB_cons (b1 := decide (i = 8)) (fun Q q => ⟨.ref a, rfl, a, c i, d, fI, v, .ref (c 8), .ref (c 8), decide (i = 8), rfl, .own _, T.x i hi, hx, T.k i 8 hi (by decide), q⟩) mkB_nil)))
    refine ⟨p1, pz, _, _, rfl, rfl, sz _ _ h2, hz, ?_, ?_⟩
    · exact Nat.le_of_lt (small1000 (by simp))
    have x3 : XAt (upd Hz p1 (.lst ((([0, 1, 2] ++ [3, 4, 5]).map fun j => V.bl (decide (i = j))) ++ ([6, 7, 8].map fun j => V.bl (decide (i = j)))))) a (c i) d v := XAt.putL xz (sz _ _ h2)
    have s3 : Same H (upd Hz p1 (.lst ((([0, 1, 2] ++ [3, 4, 5]).map fun j => V.bl (decide (i = j))) ++ ([6, 7, 8].map fun j => V.bl (decide (i = j)))))) := fun b o e => by
      rw [upd_ne (ne_of_none e n1)]; exact sz _ _ (s2 _ _ e)
    have h3 : (upd Hz p1 (.lst ((([0, 1, 2] ++ [3, 4, 5]).map fun j => V.bl (decide (i = j))) ++ ([6, 7, 8].map fun j => V.bl (decide (i = j)))))) p1 = some (.lst ((([0, 1, 2] ++ [3, 4, 5]) ++ [6, 7, 8]).map fun j => V.bl (decide (i = j)))) := by rw [List.map_append]; exact upd_same
    generalize (upd Hz p1 (.lst ((([0, 1, 2] ++ [3, 4, 5]).map fun j => V.bl (decide (i = j))) ++ ([6, 7, 8].map fun j => V.bl (decide (i = j)))))) = H3' at x3 s3 h3 ⊢
    refine rs_bm (r_var (v := .ref p1) rfl ⟨.inl ⟨rfl, _, .inl (.inl h3)⟩, ?_⟩)
    refine r_cons (lstB_use (js := [9, 10, 11]) (i := i) (v := v) (a := a) (d := d) (by simp) x3 (fun pz Hz sz nz hz xz => ?_) ?mm)
    case mm => exact fun H hx => (mkB_cons (b1 := decide (i = 9)) (fun Q q => ⟨.ref a, rfl, a, c i, d, fI, v, .ref (c 9), .ref (c 9), decide (i = 9), rfl, .own _, T.x i hi, hx, T.k i 9 hi (by decide), q⟩) (mkB_cons (b1 := decide (i = 10)) (fun Q q => ⟨.ref a, rfl, a, c i, d, fI, v, .ref (c 10), .ref (c 10), decide (i = 10), rfl, .own _, T.x i hi, hx, T.k i 10 hi (by decide), q⟩) (mkB_cons (b1 := decide (i = 11)) (fun Q q => ⟨.ref a, rfl, a, c i, d, fI, v, .ref (c 11), .ref (c 11), decide (i = 11), rfl, .own _, T.x i hi, hx, T.k i 11 hi (by decide), q⟩) mkB_nil)))
    refine ⟨p1, pz, _, _, rfl, rfl, sz _ _ h3, hz, ?_, ?_⟩
    · exact Nat.le_of_lt (small1000 (by simp))
    have x4 : XAt (upd Hz p1 (.lst (((([0, 1, 2] ++ [3, 4, 5]) ++ [6, 7, 8]).map fun j => V.bl (decide (i = j))) ++ ([9, 10, 11].map fun j => V.bl (decide (i = j)))))) a (c i) d v := XAt.putL xz (sz _ _ h3)
    have s4 : Same H (upd Hz p1 (.lst (((([0, 1, 2] ++ [3, 4, 5]) ++ [6, 7, 8]).map fun j => V.bl (decide (i = j))) ++ ([9, 10, 11].map fun j => V.bl (decide (i = j)))))) := fun b o e => by
      rw [upd_ne (ne_of_none e n1)]; exact sz _ _ (s3 _ _ e)
    have h4 : (upd Hz p1 (.lst (((([0, 1, 2] ++ [3, 4, 5]) ++ [6, 7, 8]).map fun j => V.bl (decide (i = j))) ++ ([9, 10, 11].map fun j => V.bl (decide (i = j)))))) p1 = some (.lst (((([0, 1, 2] ++ [3, 4, 5]) ++ [6, 7, 8]) ++ [9, 10, 11]).map fun j => V.bl (decide (i = j)))) := by rw [List.map_append]; exact upd_same
    generalize (upd Hz p1 (.lst (((([0, 1, 2] ++ [3, 4, 5]) ++ [6, 7, 8]).map fun j => V.bl (decide (i = j))) ++ ([9, 10, 11].map fun j => V.bl (decide (i = j)))))) = H4' at x4 s4 h4 ⊢
    refine rs_bm (r_var (v := .ref p1) rfl ⟨.inl ⟨rfl, _, .inl (.inl h4)⟩, ?_⟩)
    refine r_cons (lstB_use (js := [12]) (i := i) (v := v) (a := a) (d := d) (by simp) x4 (fun pz Hz sz nz hz xz => ?_) ?mm)
    case mm => exact fun H hx => (mkB_cons (b1 := decide (i = 12)) (fun Q q => ⟨.ref a, rfl, a, c i, d, fI, v, .ref (c 12), .ref (c 12), decide (i = 12), rfl, .own _, T.x i hi, hx, T.k i 12 hi (by decide), q⟩) mkB_nil)
    refine ⟨p1, pz, _, _, rfl, rfl, sz _ _ h4, hz, ?_, ?_⟩
    · exact Nat.le_of_lt (small1000 (by simp))
    have x5 : XAt (upd Hz p1 (.lst ((((([0, 1, 2] ++ [3, 4, 5]) ++ [6, 7, 8]) ++ [9, 10, 11]).map fun j => V.bl (decide (i = j))) ++ ([12].map fun j => V.bl (decide (i = j)))))) a (c i) d v := XAt.putL xz (sz _ _ h4)
    have s5 : Same H (upd Hz p1 (.lst ((((([0, 1, 2] ++ [3, 4, 5]) ++ [6, 7, 8]) ++ [9, 10, 11]).map fun j => V.bl (decide (i = j))) ++ ([12].map fun j => V.bl (decide (i = j)))))) := fun b o e => by
      rw [upd_ne (ne_of_none e n1)]; exact sz _ _ (s4 _ _ e)
    have h5 : (upd Hz p1 (.lst ((((([0, 1, 2] ++ [3, 4, 5]) ++ [6, 7, 8]) ++ [9, 10, 11]).map fun j => V.bl (decide (i = j))) ++ ([12].map fun j => V.bl (decide (i = j)))))) p1 = some (.lst ((((([0, 1, 2] ++ [3, 4, 5]) ++ [6, 7, 8]) ++ [9, 10, 11]) ++ [12]).map fun j => V.bl (decide (i = j)))) := by rw [List.map_append]; exact upd_same
    generalize (upd Hz p1 (.lst ((((([0, 1, 2] ++ [3, 4, 5]) ++ [6, 7, 8]) ++ [9, 10, 11]).map fun j => V.bl (decide (i = j))) ++ ([12].map fun j => V.bl (decide (i = j)))))) = H5' at x5 s5 h5 ⊢

    refine r_ret (r_op (r_var rfl (r_call (r_cons (r_var (v := .ref a) rfl ⟨a, d, i, v, rfl, hi, x5, fun p2 H2 t2 m2 hp2 => ?_⟩)))))
    refine ⟨p1, p2, _, _, rfl, rfl, t2 _ _ h5, hp2, Nat.le_of_lt (small1000 (by simp)), fun p hp => ?_⟩
    refine q p _ ((s5.trans t2).trans (same_upd hp)) ((s5.trans t2).free hp) ?_
    rw [upd_same, ← List.map_append]
    rfl
end
end Hw

set_option Elab.async false
set_option linter.all false
set_option maxRecDepth 100000
set_option maxHeartbeats 4000000
namespace Hw
open PySem L2 PyProof.Rows
/-! tests that come out false, new objects apart -/
def AnsF (t : TT) (σ : L2.St) (H : Hp) : Prop := ∀ Q : Bool → Hp → Prop, (∀ H', Same H H' → Q false H') → t σ H Q
section
variable {t u : TT} {σ : L2.St} {H : Hp} {te : TE} {us : TS} {D : Ends}
theorem ansF_or (h1 : AnsF t σ H) (h2 : ∀ H', Same H H' → AnsF u σ H') : AnsF (tOr t u) σ H := fun Q q =>
  h1 _ fun H1 s1 => by
    show if false = true then Q true H1 else u σ H1 Q
    rw [if_neg Bool.false_ne_true]
    exact h2 H1 s1 Q fun H2 s2 => q H2 (s1.trans s2)
theorem rs_skip (h1 : AnsF t σ H) (h : ∀ H', Same H H' → us D σ H') : tSeq (tIfS t (tRet te) tNext) us D σ H := h1 _ fun H1 s1 => by
  show if false = true then _ else _
  rw [if_neg Bool.false_ne_true]
  exact h H1 s1
theorem r1_skip (h1 : AnsF t σ H) (h : ∀ H', Same H H' → D.nx σ H') : tIfS t (tRet te) tNext D σ H := h1 _ fun H1 s1 => by
  show if false = true then _ else _
  rw [if_neg Bool.false_ne_true]
  exact h H1 s1
end
section
variable {u : TS} {D : Ends} {σ : L2.St} {H : Hp} {i j : Nat} {ta : TA} {v : V} {Q : L2.St → Hp → Prop}
theorem rs_par (h : ta σ H fun vs H1 => ∃ v w, vs = [v, w] ∧ u D ((σ.set i (some v)).set j (some w)) H1) : tSeq (tPar i j ta) u D σ H := h
theorem r_gname (h : Q (σ.set i (some v)) H) : gName i v σ H Q := h
end
theorem rs_enum {K : PySem.W.Frag} {u tb : TS} {g : TG} {D : Ends} {σ : L2.St} {H : Hp} {i : Nat} {p : Addr} {xs : List V} (e : σ[i]? = some (some (.ref p))) (hs : SqL K H p xs) (Pv : Nat → L2.St → Hp → Prop) (h0 : Pv 0 σ H)
    (hG : ∀ j σ H, j ≤ xs.length → Pv j σ H → SqL K H p xs)
    (turn : ∀ j x σ H T, j < xs.length → Pv j σ H → H T = none → xs[j]? = some x → g (.ref T) σ (upd H T (.tup [.int (j : Int), x])) fun σ2 H2 => tb { D with nx := Pv (j + 1), ct := Pv (j + 1), bk := u D } σ2 H2)
    (done : ∀ σ H, Pv xs.length σ H → u D σ H) : tSeq (tFor (iEnum K (tCons (tVar i) tNil)) g tb) u D σ H :=
  ⟨.ref p, e, p, xs, rfl, hs, for_it walk_enum Pv h0 hG (fun j x σ H H' hj hp ⟨T, xa, ya, ex, nT, eH, e1, e2⟩ => by
    subst ex eH
    obtain rfl : V.int (j : Int) = xa := Option.some.inj e1
    exact turn j ya σ H T hj hp nT e2) done⟩
theorem cls_eq (c : Nat → Addr) : csA c ++ csB c = (List.range 26).map c := rfl
theorem paired_at {α β : Type} {F : α → β → Prop} : ∀ {xs : List α} {ys : List β} {i : Nat} {y : β}, Paired F xs ys → ys[i]? = some y → ∃ x, xs[i]? = some x ∧ F x y
  | _, _, _, _, .nil, e => by simp at e
  | _, _, 0, _, .cons a _, e => by simp at e; subst e; exact ⟨_, rfl, a⟩
  | _, _, i + 1, y, .cons _ t, e => by
    obtain ⟨x, h1, h2⟩ := paired_at (i := i) t (by simpa using e)
    exact ⟨x, by simpa using h1, h2⟩
theorem cnt1 : ∀ j, j < 26 → ((List.range 26).map fun k => decide (j = k)).count true = 1 := by decide +kernel
theorem rs_same {H : Hp} {a : Addr} {o : HO} (h : H a = none) : Same H (upd H a o) := same_upd h
structure Blt2 (mg : Str → Option Value) : Prop where
  enum : mg "enumerate" = none
  repr : mg "repr" = none
  all : mg "all" = none
  ve : mg "ValueError" = none
def spRight : Sp := fun vs H Q _ => ∃ (a : Addr), vs = [.ref a] ∧ Pot H a 0 ∧ ∀ H', SameX a H H' → Q (.bl true) H'
section
variable {P : Program} {w : World} {K : PySem.W.Frag} {mg : Str → Option Value} {base : Heap} {c : Nat → Addr} {fI : Addr}
theorem scRight : FnScope ["pot", "lap", "value", "errors", "base", "at", "error"] ["pot"] (defScope sRight) := ⟨rfl, rfl, rfl, by decide +kernel, rfl, by decide +kernel, by decide +kernel⟩
theorem ok_right {f fO fM fK : Addr} {fd fdI fdO fdM fdK : FuncData} {k : Nat} (F : Fun K "_law_right" "_law_right" sRight f fd) (B : Blt mg) (B2 : Blt2 mg) (T : XT K mg c fI) (GI : FnOk P w K mg base CX0 k fI fdI ["self", "value"] (spIniX K)) (bI : Binds K fdI ["self", "value"] [])
    (GO : FnOk P w K mg base CX0 (k + 1) fO fdO ["pot"] spOdd) (gO : mg "_law_odd" = some (.ref fO)) (kO : PySem.W.keepIn K (.ref fO) = true) (bO : Binds K fdO ["pot"] [])
    (GM : FnOk P w K mg base CX0 (k + 1) fM fdM ["value"] (spMade c (csA c ++ csB c))) (gM : mg "_law_made" = some (.ref fM)) (kM : PySem.W.keepIn K (.ref fM) = true) (bM : Binds K fdM ["value"] [])
    (GK : FnOk P w K mg base CX0 (k + 1) fK fdK ["error"] (spKinds c (List.range 26))) (gK : mg "_law_kinds" = some (.ref fK)) (kK : PySem.W.keepIn K (.ref fK) = true) (bK : Binds K fdK ["error"] []) :
    FnG P w K mg base CX0 (k + 2) f fd ["pot"] spRight := by
  refine funG F scRight (fun vs H Q E h => ?_) (fun cdv A outer s H vs Q E hg h => ?_)
  · obtain ⟨a, rfl, _⟩ := h
    rfl
  · obtain ⟨a, rfl, hP, q⟩ := h
    have hr := hg.r
    have hu := hr.units
    have hun := hr.un
    have hgg := hg.g
    have h100 : (A.deeper (envOfC "_law_right" (defScope sRight) s.heap.objs.size f cdv)).units + 100 < cLine := by omega
    refine ⟨_, pss_cons (ps_for PassesOwn.never rfl (pi_range1 (by rfl) B.range (pa_cons pe_int pa_nil)) (pg_name (i := 1) scRight.nd rfl (.inl rfl))
        (pss_cons (ps_set (i := 2) scRight.nd rfl (.inl rfl) (pe_call GO hr (by rfl) gO kO bO .nil pass0 (pa_cons (pv 0) pa_nil)))
        (pss_cons (ps_par (i := 3) (j := 4) rfl scRight.nd rfl rfl (by decide) rfl rfl (pa_cons (pe_call GM hr (by rfl) gM kM bM .nil pass0 (pa_cons (pv 2) pa_nil)) (pa_cons (pe_mkX (T.x 26 (by decide)) GI hr bI (by rfl) T.g26 (pa_cons (pv 2) pa_nil)) pa_nil)) rfl)
        (pss_cons (ps_for PassesOwn.never rfl (pi_enum (by rfl) B2.enum (pa_cons (pv 3) pa_nil)) (pg_tup rfl (pgs_cons (pg_name (i := 5) scRight.nd rfl (.inl rfl)) (pgs_cons (pg_name (i := 6) scRight.nd rfl (.inl rfl)) pgs_nil)))
          (pss_cons (ps_if (pw_or (pt_cmpR (op_neO hu) (pe_xv (pv 6)) (pv 2) (nomark _))
              (pw_or (pt_cmpR op_ne (pe_callB (call_reprO hgg h100) (by rfl) B2.repr PyProof.Rows.boot_repr (pa_cons (pe_xv (pv 6)) pa_nil)) (pe_callB (call_reprO hgg h100) (by rfl) B2.repr PyProof.Rows.boot_repr (pa_cons (pv 2) pa_nil)) (nomark _))
              (pw_or1 (pt_cmpR op_ne (pe_bm PySem.F.plainAttrs_list PySem.F.slot_list_index PySem.F.type_list_index mt_index (pe_call GK hr (by rfl) gK kK bK .nil pass0 (pa_cons (pv 6) pa_nil)) (pa_cons pe_bl pa_nil)) (pv 5) (nomark _))))).pt (pss_one (ps_ret pe_bl)) pss_nil)
          (pss_cons (ps_if (pw_or (pt_cmpR op_ne (pe_bm PySem.F.plainAttrs_list PySem.F.slot_list_count PySem.F.type_list_count mt_cntT (pe_call GK hr (by rfl) gK kK bK .nil pass0 (pa_cons (pv 6) pa_nil)) (pa_cons pe_bl pa_nil)) pe_int (nomark _))
              (pw_or1 (pt_not (pt_val (pe_callB call_isX (by rfl) T.isi boot_isinstance (pa_cons (pv 6) (pa_cons (pe_glob (v := .ref (c 26)) (by rfl) T.g26 rfl) pa_nil))))))).pt (pss_one (ps_ret pe_bl)) pss_nil)
          (pss_one (ps_if (pt_not (pt_val (pe_callB call_isX (by rfl) T.isi boot_isinstance (pa_cons (pv 6) (pa_cons (pe_bltn (v := .ty "ValueError") (by rfl) B2.ve PyProof.Rows.Boot.«ValueError» rfl) pa_nil))))) (pss_one (ps_ret pe_bl)) pss_nil)))))
        (pss_one (ps_if (pw_or (pt_cmpR op_ne (pe_callB (call_reprO hgg h100) (by rfl) B2.repr PyProof.Rows.boot_repr (pa_cons (pe_xv (pv 4)) pa_nil)) (pe_callB (call_reprO hgg h100) (by rfl) B2.repr PyProof.Rows.boot_repr (pa_cons (pv 2) pa_nil)) (nomark _))
            (pw_or (pt_cmpR op_in_seq pe_bl (pe_call GK hr (by rfl) gK kK bK .nil pass0 (pa_cons (pv 4) pa_nil)) rfl)
            (pw_or1 (pt_not (pt_val (pe_callB call_isX (by rfl) T.isi boot_isinstance (pa_cons (pv 4) (pa_cons (pe_bltn (v := .ty "ValueError") (by rfl) B2.ve PyProof.Rows.Boot.«ValueError» rfl) pa_nil)))))))).pt (pss_one (ps_ret pe_bl)) pss_nil))))))
      (pss_one (ps_ret pe_bl)), ?_⟩
    refine ⟨3, rfl, by decide, by decide, for_range (n := 3) (fun i σ' H' => ∃ o1 o2 o3 o4 o5 o6, σ' = [some (.ref a), o1, o2, o3, o4, o5, o6] ∧ SameX a H H' ∧ Pot H' a i) ⟨_, _, _, _, _, _, rfl, SameX.refl a H, hP⟩ ?_ ?_⟩
    · rintro i σ1 H1 hi ⟨o1, o2, o3, o4, o5, o6, rfl, sx, hp⟩
      refine r_gname ?_
      refine rs_set (r_call (r_cons (r_var (v := .ref a) rfl ⟨a, i, rfl, hp, by omega, fun v d H2 hf hd sx2 hp2 => ?_⟩)))
      refine rs_par (r_cons (r_call (r_cons (r_var (v := v) rfl ⟨v, rfl, fun pe xs H3 s3 n3 h3 x3 => ?_⟩))))
      refine r_cons ⟨v, rfl, v, rfl, fun ab db nab ndb dab => ⟨_, _, rfl, ?_⟩⟩
      have s4 : Same H3 (upd (upd H3 db (exd db [("value", v)])) ab (exo ab (c 26) (some db))) := (same_upd (o := exd db [("value", v)]) ndb).trans (same_upd (by rw [upd_ne (Ne.symm dab)]; exact nab))
      have xb : XAt (upd (upd H3 db (exd db [("value", v)])) ab (exo ab (c 26) (some db))) ab (c 26) db v := ⟨upd_same, by rw [upd_ne dab, upd_same]⟩
      generalize (upd (upd H3 db (exd db [("value", v)])) ab (exo ab (c 26) (some db))) = H4 at s4 xb
      have hd4 : Dx a H4 v d := Dx.keep (.of (s3.trans s4)) _ _ hd
      have s24 : Same H2 H4 := s3.trans s4
      have lx : xs.length = 26 := by rw [← x3.length, cls_eq]; rfl
      refine rs_enum (p := pe) (xs := xs) rfl (sql_of (s4 _ _ h3)) (fun j σ' H' => ∃ o1 o5 o6, σ' = [some (.ref a), o1, some v, some (.ref pe), some (.ref ab), o5, o6] ∧ Same H4 H') ⟨_, _, _, rfl, Same.refl H4⟩ (fun j σ' H' _ ⟨_, _, _, _, s5⟩ => sql_of (s5 _ _ (s4 _ _ h3))) ?_ ?_
      · rintro j x σ5 H5 Tp hj ⟨o1', o5', o6', rfl, s5⟩ nT e2
        obtain ⟨C, eC, e, de, rfl, xe⟩ := paired_at x3 e2
        rw [cls_eq] at eC
        have hj26 : j < 26 := by omega
        rw [List.getElem?_map, List.getElem?_range hj26] at eC
        obtain rfl : c j = C := Option.some.inj eC
        have sT : Same H5 (upd H5 Tp (.tup [.int (j : Int), .ref e])) := same_upd nT
        have s6 : Same H4 (upd H5 Tp (.tup [.int (j : Int), .ref e])) := s5.trans sT
        refine ⟨Tp, [.int (j : Int), .ref e], rfl, sqt_of upd_same, rfl, _, [.ref e], rfl, _, [], rfl, rfl, ?_⟩
        generalize (upd H5 Tp (.tup [.int (j : Int), .ref e])) = H6 at s6
        have hX : ∀ H', Same H6 H' → XAt H' e (c j) de v := fun H' z => xe.same ((s4.trans s6).trans z)
        have hD : ∀ H', Same H6 H' → Dx a H' v d := fun H' z => Dx.keep (.of (s6.trans z)) _ _ hd4
        refine rs_skip (ansF_or (fun Q q => ?_) fun H7 s7 => ansF_or (fun Q q => ?_) fun H8 s8 => fun Q q => ?_) fun H9 s9 => rs_skip (ansF_or (fun Q q => ?_) fun H10 s10 => fun Q q => ?_) fun H11 s11 => r1_skip (fun Q q => ?_) fun H12 s12 => ?_
        · exact ⟨.ref e, rfl, e, c j, de, fI, v, rfl, rfl, T.x j (by omega), hX _ (Same.refl _), v, rfl, a, d, rfl, hD _ (Same.refl _), hf, false, rfl, q _ (Same.refl _)⟩
        · refine ⟨.ref e, rfl, e, c j, de, fI, v, rfl, rfl, T.x j (by omega), hX _ s7, v, a, d, rfl, hD _ s7, hf, v, rfl, v, a, d, rfl, hD _ s7, hf, rfl, false, ?_, q _ (Same.refl _)⟩
          show V.bl (!decide (V.str d.shown = V.str d.shown)) = V.bl false
          rw [decide_eq_true rfl]; rfl
        · refine ⟨.ref e, rfl, e, de, j, v, rfl, by omega, hX _ (s7.trans s8), fun pk H' sk nk hk => ?_⟩
          refine ⟨.inl ⟨rfl, _, sql_of hk⟩, pk, _, .bl true, j, .bl true, rfl, rfl, sql_of hk, rfl, ?_, ?_, rfl, ?_, .int (j : Int), rfl, rfl, false, ?_, q _ sk⟩
          · exact List.all_eq_true.mpr fun z hz => by
              obtain ⟨y, _, rfl⟩ := List.mem_map.mp hz
              rfl
          · rw [List.getElem?_map, List.getElem?_range hj26]
            show some (V.bl (decide (j = j))) = some (V.bl true)
            rw [decide_eq_true rfl]
          · intro m z hm hz
            rw [List.getElem?_map, List.getElem?_range (by omega)] at hz
            obtain rfl := Option.some.inj hz
            show eqV (V.bl (decide (j = m))) (V.bl true) = false
            rw [decide_eq_false (by omega)]; rfl
          · show V.bl (!decide (V.int ((j : Nat) : Int) = V.int (j : Int))) = V.bl false
            rw [decide_eq_true rfl]; rfl
        · refine ⟨.ref e, rfl, e, de, j, v, rfl, by omega, hX _ s9, fun pk H' sk nk hk => ?_⟩
          have ek : H' pk = some (.lst (((List.range 26).map fun k => decide (j = k)).map V.bl)) := by rw [hk, List.map_map]; rfl
          refine ⟨.inl ⟨rfl, _, sql_of hk⟩, pk, _, rfl, rfl, sql_of ek, rfl, false, ?_, q _ sk⟩
          rw [cnt1 j hj26]; rfl
        · exact ⟨.ref e, rfl, e, c j, de, fI, v, .ref (c 26), .ref (c 26), true, rfl, .own _, T.x j (by omega), hX _ (s9.trans s10), T.kH j (by omega), true, rfl, q _ (Same.refl _)⟩
        · exact ⟨.ref e, rfl, e, c j, de, fI, v, .ty "ValueError", .type "ValueError", true, rfl, .ty _, T.x j (by omega), hX _ (s9.trans s11), T.kV j (by omega), true, rfl, q _ (Same.refl _)⟩
        · exact ⟨_, _, _, rfl, ((s6.trans s9).trans s11).trans s12⟩
      · rintro σ5 H5 ⟨o1', o5', o6', rfl, s5⟩
        have hX : ∀ H', Same H5 H' → XAt H' ab (c 26) db v := fun H' z => xb.same (s5.trans z)
        have hD : ∀ H', Same H5 H' → Dx a H' v d := fun H' z => Dx.keep (.of (s5.trans z)) _ _ hd4
        refine r1_skip (ansF_or (fun Q q => ?_) fun H6 s6 => ansF_or (fun Q q => ?_) fun H7 s7 => fun Q q => ?_) fun H8 s8 => ?_
        · refine ⟨.ref ab, rfl, ab, c 26, db, fI, v, rfl, rfl, T.x 26 (by omega), hX _ (Same.refl _), v, a, d, rfl, hD _ (Same.refl _), hf, v, rfl, v, a, d, rfl, hD _ (Same.refl _), hf, rfl, false, ?_, q _ (Same.refl _)⟩
          show V.bl (!decide (V.str d.shown = V.str d.shown)) = V.bl false
          rw [decide_eq_true rfl]; rfl
        · refine ⟨.ref ab, rfl, ab, db, 26, v, rfl, by omega, hX _ s6, fun pk H' sk nk hk => ?_⟩
          refine ⟨pk, _, rfl, .inl (sql_of hk), rfl, ?_, false, ?_, q _ sk⟩
          · decide +kernel
          · decide +kernel
        · exact ⟨.ref ab, rfl, ab, c 26, db, fI, v, .ty "ValueError", .type "ValueError", true, rfl, .ty _, T.x 26 (by omega), hX _ (s6.trans s7), T.kV 26 (by omega), true, rfl, q _ (Same.refl _)⟩
        · refine ⟨_, _, _, _, _, _, rfl, sx.trans (sx2.trans (.of ((s24.trans s5).trans s8))), ?_⟩
          exact hp2.same ((s24.trans s5).trans s8)
    · rintro σ1 H1 ⟨o1, o2, o3, o4, o5, o6, rfl, sx, hp⟩
      exact q H1 sx
end
end Hw

set_option Elab.async false
set_option linter.all false
set_option maxRecDepth 100000
set_option maxHeartbeats 4000000
namespace Hw
open PySem L2 PyProof.Rows
theorem r_yes {σ : L2.St} {H : Hp} {te : TE} {Q1 : VK} {B : Prop} (h : te σ H Q1) : tYes σ H fun b H3 => if b = true then te σ H3 Q1 else B := by
  show if true = true then te σ H Q1 else B
  rw [if_pos rfl]
  exact h
def spLaw (K : PySem.W.Frag) : Sp := fun vs H Q _ => ∃ (a : Addr) (ns : List Int), vs = [.ref a] ∧ SqL K H a (ns.map V.int) ∧ ns.length ≤ 63 ∧ ∀ H', Q (.bl true) H'
section
variable {P : Program} {w : World} {K : PySem.W.Frag} {mg : Str → Option Value} {base : Heap}
theorem scLaw : FnScope ["script", "place"] ["script"] (defScope sLaw) := ⟨rfl, rfl, rfl, by decide +kernel, rfl, by decide +kernel, by decide +kernel⟩
theorem ok_law {f fP fC fR : Addr} {fd fdP fdC fdR : FuncData} {k : Nat} (F : Fun K "law" "law" sLaw f fd) (B2 : Blt2 mg)
    (GP : FnOk P w K mg base CX0 k fP fdP ["script", "place"] (spPot K)) (gP : mg "_law_pot" = some (.ref fP)) (kP : PySem.W.keepIn K (.ref fP) = true) (bP : Binds K fdP ["script", "place"] [])
    (GC : FnOk P w K mg base CX0 k fC fdC ["script", "most"] (spCells K)) (gC : mg "_law_cells" = some (.ref fC)) (kC : PySem.W.keepIn K (.ref fC) = true) (bC : Binds K fdC ["script", "most"] [])
    (GR : FnG P w K mg base CX0 k fR fdR ["pot"] spRight) (gR : mg "_law_right" = some (.ref fR)) (kR : PySem.W.keepIn K (.ref fR) = true) (bR : Binds K fdR ["pot"] []) :
    FnG P w K mg base CX0 (k + 1) f fd ["script"] (spLaw K) := by
  refine funG F scLaw (fun vs H Q E h => ?_) (fun cdv A outer s H vs Q E hg h => ?_)
  · obtain ⟨a, ns, rfl, _⟩ := h
    rfl
  · obtain ⟨a, ns, rfl, hS, hl, q⟩ := h
    have hr := hg.r
    refine ⟨_, pss_one (ps_ret (pe_callB (cr_all rfl) (by rfl) B2.all PyProof.Rows.boot_all (pa_cons (pe_lc (own := [("place", 1)]) (g := gName 1) (tt := tYes) rfl scLaw.nd
      (pi_list (pe_call GC hr (by rfl) gC kC bC .nil pass0 (pa_cons (pv 0) (pa_cons pe_int pa_nil)))) (blkOk_by (N := ["script", "place"]) (sc := defScope sLaw) (by decide +kernel))
      (fun _ _ _ _ _ => pg_name (i := 1) scLaw.nd rfl (Or.inl rfl)) (fun _ _ _ _ _ => pts_nil)
      (fun _ _ _ _ _ => pe_callG GR hg (by rfl) gR kR bR .nil pass0 (pa_cons (pe_call GP hr (by rfl) gP kP bP .nil pass0 (pa_cons (pv 0) (pa_cons (pv 1) pa_nil))) pa_nil))) pa_nil))), ?_⟩
    refine r_ret ?_
    refine ⟨.ref a, rfl, a, ns.map V.int, 3, rfl, hS, by rw [List.length_map]; exact hl, by decide, by decide, fun n p H1 n0 n3 s1 np hp => ?_⟩
    refine ⟨p, rfl, ⟨_, sql_of hp⟩, fun D hD => ?_⟩
    have lenr : ((List.range n).map fun i : Nat => V.int (i : Int)).length = n := by rw [List.length_map, List.length_range]
    have nDp : p ≠ D := ne_of_none hp hD
    refine lc_list (xs := (List.range n).map fun i : Nat => V.int (i : Int)) (fun i H' => Same H1 H' ∧ H' D = some (.lst (List.replicate i (.bl true)))) ⟨same_upd hD, upd_same⟩ (fun i H' _ h => sql_of (h.1 _ _ hp)) ?_ ?_
    · rintro i x H2 hx ⟨s2, eD⟩
      rw [List.getElem?_map] at hx
      have hi : i < n := by
        cases e : (List.range n)[i]? with
        | none => rw [e] at hx; cases hx
        | some y =>
          have z := (List.getElem?_eq_some_iff.mp e).1
          rwa [List.length_range] at z
      rw [List.getElem?_range hi] at hx
      obtain rfl : V.int (i : Int) = x := Option.some.inj hx
      refine ⟨rfl, ?_⟩
      refine r_yes ?_
      refine r_call (r_cons (r_call (r_cons (r_var (v := .ref a) rfl (r_cons (r_var (v := .int (i : Int)) rfl ⟨a, ns, i, rfl, (s1.trans s2).seq hS, hl, by omega, by omega, fun pp H3 s3 np3 hp3 => ?_⟩))))))
      refine ⟨pp, rfl, hp3, fun H4 s4 => ?_⟩
      have e4 : H4 D = some (.lst (List.replicate i (.bl true))) := s4 _ _ (ne_of_none eD np3) (s3 _ _ eD)
      refine ⟨_, e4, small1000 (by rw [List.length_replicate]; omega), fun b o e => ?_, ?_⟩
      · have nb : b ≠ D := ne_of_none e hD
        rw [upd_ne nb]
        exact s4 _ _ (ne_of_none (s2 _ _ e) np3) (s3 _ _ (s2 _ _ e))
      · rw [upd_same, ← List.replicate_succ']
    · rintro H2 ⟨s2, eD⟩
      rw [lenr] at eD
      refine ⟨D, List.replicate n true, rfl, sql_of (by rw [eD, List.map_replicate]), ?_⟩
      have e : (List.replicate n true).all id = true := by simp
      rw [e]
      exact q H2
end
/-! ### the end -/
def cl (l : List Addr) (i : Nat) : Addr := l.getD i 0
def kitsB (K : PySem.W.Frag) (l : List Addr) : Bool := (List.range 27).all fun i => decide (PySem.W.kitOne K (.ref (cl l i)) (.ref (cl l 26)) = some true) && (decide (PySem.W.kitOne K (.ref (cl l i)) (.type "ValueError") = some true) &&
  (List.range 26).all fun j => decide (PySem.W.kitOne K (.ref (cl l i)) (.ref (cl l j)) = some (decide (i = j))))
def xallB (K : PySem.W.Frag) (fI : Addr) (l : List Addr) : Bool := (List.range 27).all fun i => xclsB K fI (cl l i)
theorem xt_of {K : PySem.W.Frag} {h : Heap} {mg : Str → Option Value} (X : K.In h) (G : h.Ns mainGlobals mg) {fI C0 C1 C2 C3 C4 C5 C6 C7 C8 C9 C10 C11 C12 C13 C14 C15 C16 C17 C18 C19 C20 C21 C22 C23 C24 C25 C26 : Addr}
    (a0 : PySem.W.nsIn K mainGlobals "BadWeb" = some (some (.ref C0)))
    (a1 : PySem.W.nsIn K mainGlobals "BadPlaces" = some (some (.ref C1)))
    (a2 : PySem.W.nsIn K mainGlobals "BadTies" = some (some (.ref C2)))
    (a3 : PySem.W.nsIn K mainGlobals "BadPlace" = some (some (.ref C3)))
    (a4 : PySem.W.nsIn K mainGlobals "NoPlaces" = some (some (.ref C4)))
    (a5 : PySem.W.nsIn K mainGlobals "BadHistory" = some (some (.ref C5)))
    (a6 : PySem.W.nsIn K mainGlobals "BadDeed" = some (some (.ref C6)))
    (a7 : PySem.W.nsIn K mainGlobals "BadNumber" = some (some (.ref C7)))
    (a8 : PySem.W.nsIn K mainGlobals "NoPlace" = some (some (.ref C8)))
    (a9 : PySem.W.nsIn K mainGlobals "BadRows" = some (some (.ref C9)))
    (a10 : PySem.W.nsIn K mainGlobals "BadKind" = some (some (.ref C10)))
    (a11 : PySem.W.nsIn K mainGlobals "NotWood" = some (some (.ref C11)))
    (a12 : PySem.W.nsIn K mainGlobals "BadName" = some (some (.ref C12)))
    (a13 : PySem.W.nsIn K mainGlobals "Held" = some (some (.ref C13)))
    (a14 : PySem.W.nsIn K mainGlobals "TooMany" = some (some (.ref C14)))
    (a15 : PySem.W.nsIn K mainGlobals "BadRule" = some (some (.ref C15)))
    (a16 : PySem.W.nsIn K mainGlobals "BadLimits" = some (some (.ref C16)))
    (a17 : PySem.W.nsIn K mainGlobals "NotTree" = some (some (.ref C17)))
    (a18 : PySem.W.nsIn K mainGlobals "NoTree" = some (some (.ref C18)))
    (a19 : PySem.W.nsIn K mainGlobals "NoThing" = some (some (.ref C19)))
    (a20 : PySem.W.nsIn K mainGlobals "WrongKind" = some (some (.ref C20)))
    (a21 : PySem.W.nsIn K mainGlobals "BadPlay" = some (some (.ref C21)))
    (a22 : PySem.W.nsIn K mainGlobals "NothingToUndo" = some (some (.ref C22)))
    (a23 : PySem.W.nsIn K mainGlobals "NothingToRedo" = some (some (.ref C23)))
    (a24 : PySem.W.nsIn K mainGlobals "NoNote" = some (some (.ref C24)))
    (a25 : PySem.W.nsIn K mainGlobals "BadDesk" = some (some (.ref C25)))
    (a26 : PySem.W.nsIn K mainGlobals "HealError" = some (some (.ref C26)))
    (_ai : PySem.W.findIn K (.ref C26) "__init__" = some (some (.ref fI))) (hx : xallB K fI [C0, C1, C2, C3, C4, C5, C6, C7, C8, C9, C10, C11, C12, C13, C14, C15, C16, C17, C18, C19, C20, C21, C22, C23, C24, C25, C26] = true) (hk : kitsB K [C0, C1, C2, C3, C4, C5, C6, C7, C8, C9, C10, C11, C12, C13, C14, C15, C16, C17, C18, C19, C20, C21, C22, C23, C24, C25, C26] = true) (hi : PySem.W.nsIn K mainGlobals "isinstance" = some none) : XT K mg (cl [C0, C1, C2, C3, C4, C5, C6, C7, C8, C9, C10, C11, C12, C13, C14, C15, C16, C17, C18, C19, C20, C21, C22, C23, C24, C25, C26]) fI := by
  have hx' := List.all_eq_true.mp hx
  have hk' := List.all_eq_true.mp hk
  refine { g0 := PySem.W.mg_of X G a0, g1 := PySem.W.mg_of X G a1, g2 := PySem.W.mg_of X G a2, g3 := PySem.W.mg_of X G a3, g4 := PySem.W.mg_of X G a4, g5 := PySem.W.mg_of X G a5, g6 := PySem.W.mg_of X G a6, g7 := PySem.W.mg_of X G a7, g8 := PySem.W.mg_of X G a8, g9 := PySem.W.mg_of X G a9, g10 := PySem.W.mg_of X G a10, g11 := PySem.W.mg_of X G a11, g12 := PySem.W.mg_of X G a12, g13 := PySem.W.mg_of X G a13, g14 := PySem.W.mg_of X G a14, g15 := PySem.W.mg_of X G a15, g16 := PySem.W.mg_of X G a16, g17 := PySem.W.mg_of X G a17, g18 := PySem.W.mg_of X G a18, g19 := PySem.W.mg_of X G a19, g20 := PySem.W.mg_of X G a20, g21 := PySem.W.mg_of X G a21, g22 := PySem.W.mg_of X G a22, g23 := PySem.W.mg_of X G a23, g24 := PySem.W.mg_of X G a24, g25 := PySem.W.mg_of X G a25, g26 := PySem.W.mg_of X G a26, x := fun i hi => xclsB_ok (hx' i (List.mem_range.mpr hi)), k := fun i j hi hj => ?_, kH := fun i hi => ?_, kV := fun i hi => ?_, isi := PySem.W.mg_none_of X G hi }
  · have z := hk' i (List.mem_range.mpr hi)
    simp only [Bool.and_eq_true, decide_eq_true_eq] at z
    exact of_decide_eq_true (List.all_eq_true.mp z.2.2 j (List.mem_range.mpr hj))
  · have z := hk' i (List.mem_range.mpr hi)
    simp only [Bool.and_eq_true, decide_eq_true_eq] at z
    exact z.1
  · have z := hk' i (List.mem_range.mpr hi)
    simp only [Bool.and_eq_true, decide_eq_true_eq] at z
    exact z.2.1
theorem all_mk {P : Program} {w : World} {K : PySem.W.Frag} {h : Heap} {mg : Str → Option Value} {fa fI f0 f1 f2 f3 f4 f5 f6 f7 f8 f9 f10 : Addr} {c : Nat → Addr} (X : K.In h) (G : h.Ns mainGlobals mg) (hfa : mg "law" = some (.ref fa)) (T : XT K mg c fI)
    {odI anI od0 an0 od1 an1 od2 an2 od3 an3 od4 an4 od5 an5 od6 an6 od7 an7 od8 an8 od9 an9 od10 an10 : Option Addr} {slI sl0 sl1 sl2 sl3 sl4 sl5 sl6 sl7 sl8 sl9 sl10 : Array (Option Value)} {ocI kVI dcI pmI cdI ctI oc0 kV0 dc0 pm0 cd0 ct0 oc1 kV1 dc1 pm1 cd1 ct1 oc2 kV2 dc2 pm2 cd2 ct2 oc3 kV3 dc3 pm3 cd3 ct3 oc4 kV4 dc4 pm4 cd4 ct4 oc5 kV5 dc5 pm5 cd5 ct5 oc6 kV6 dc6 pm6 cd6 ct6 oc7 kV7 dc7 pm7 cd7 ct7 oc8 kV8 dc8 pm8 cd8 ct8 oc9 kV9 dc9 pm9 cd9 ct9 oc10 kV10 dc10 pm10 cd10 ct10 : Value}
    (lI : K.lookup fI = some ⟨ocI, odI, .func (PySem.W.fnOf "__init__" "HealError.__init__" (defArgs sIni) (defBody sIni) (defScope sIni) .none kVI dcI pmI anI cdI ctI), slI⟩) (cI : PySem.W.codeIn K cdI "HealError.__init__" = true) (kI : PySem.W.keepIn K (.ref fI) = true)
    (a0 : PySem.W.nsIn K mainGlobals "_law_pot" = some (some (.ref f0))) (l0 : K.lookup f0 = some ⟨oc0, od0, .func (PySem.W.fnOf "_law_pot" "_law_pot" (defArgs sPot) (defBody sPot) (defScope sPot) .none kV0 dc0 pm0 an0 cd0 ct0), sl0⟩) (c0 : PySem.W.codeIn K cd0 "_law_pot" = true) (k0 : PySem.W.keepIn K (.ref f0) = true)
    (a1 : PySem.W.nsIn K mainGlobals "_law_take" = some (some (.ref f1))) (l1 : K.lookup f1 = some ⟨oc1, od1, .func (PySem.W.fnOf "_law_take" "_law_take" (defArgs sTake) (defBody sTake) (defScope sTake) .none kV1 dc1 pm1 an1 cd1 ct1), sl1⟩) (c1 : PySem.W.codeIn K cd1 "_law_take" = true) (k1 : PySem.W.keepIn K (.ref f1) = true)
    (a2 : PySem.W.nsIn K mainGlobals "_law_of" = some (some (.ref f2))) (l2 : K.lookup f2 = some ⟨oc2, od2, .func (PySem.W.fnOf "_law_of" "_law_of" (defArgs sOf) (defBody sOf) (defScope sOf) .none kV2 dc2 pm2 an2 cd2 ct2), sl2⟩) (c2 : PySem.W.codeIn K cd2 "_law_of" = true) (k2 : PySem.W.keepIn K (.ref f2) = true)
    (a3 : PySem.W.nsIn K mainGlobals "_law_cells" = some (some (.ref f3))) (l3 : K.lookup f3 = some ⟨oc3, od3, .func (PySem.W.fnOf "_law_cells" "_law_cells" (defArgs sCells) (defBody sCells) (defScope sCells) .none kV3 dc3 pm3 an3 cd3 ct3), sl3⟩) (c3 : PySem.W.codeIn K cd3 "_law_cells" = true) (k3 : PySem.W.keepIn K (.ref f3) = true)
    (a4 : PySem.W.nsIn K mainGlobals "_law_odd" = some (some (.ref f4))) (l4 : K.lookup f4 = some ⟨oc4, od4, .func (PySem.W.fnOf "_law_odd" "_law_odd" (defArgs sOdd) (defBody sOdd) (defScope sOdd) .none kV4 dc4 pm4 an4 cd4 ct4), sl4⟩) (c4 : PySem.W.codeIn K cd4 "_law_odd" = true) (k4 : PySem.W.keepIn K (.ref f4) = true)
    (a5 : PySem.W.nsIn K mainGlobals "_law_made" = some (some (.ref f5))) (l5 : K.lookup f5 = some ⟨oc5, od5, .func (PySem.W.fnOf "_law_made" "_law_made" (defArgs sMade) (defBody sMade) (defScope sMade) .none kV5 dc5 pm5 an5 cd5 ct5), sl5⟩) (c5 : PySem.W.codeIn K cd5 "_law_made" = true) (k5 : PySem.W.keepIn K (.ref f5) = true)
    (a6 : PySem.W.nsIn K mainGlobals "_law_made_too" = some (some (.ref f6))) (l6 : K.lookup f6 = some ⟨oc6, od6, .func (PySem.W.fnOf "_law_made_too" "_law_made_too" (defArgs sMadeT) (defBody sMadeT) (defScope sMadeT) .none kV6 dc6 pm6 an6 cd6 ct6), sl6⟩) (c6 : PySem.W.codeIn K cd6 "_law_made_too" = true) (k6 : PySem.W.keepIn K (.ref f6) = true)
    (a7 : PySem.W.nsIn K mainGlobals "_law_kinds" = some (some (.ref f7))) (l7 : K.lookup f7 = some ⟨oc7, od7, .func (PySem.W.fnOf "_law_kinds" "_law_kinds" (defArgs sKinds) (defBody sKinds) (defScope sKinds) .none kV7 dc7 pm7 an7 cd7 ct7), sl7⟩) (c7 : PySem.W.codeIn K cd7 "_law_kinds" = true) (k7 : PySem.W.keepIn K (.ref f7) = true)
    (a8 : PySem.W.nsIn K mainGlobals "_law_kinds_too" = some (some (.ref f8))) (l8 : K.lookup f8 = some ⟨oc8, od8, .func (PySem.W.fnOf "_law_kinds_too" "_law_kinds_too" (defArgs sKindsT) (defBody sKindsT) (defScope sKindsT) .none kV8 dc8 pm8 an8 cd8 ct8), sl8⟩) (c8 : PySem.W.codeIn K cd8 "_law_kinds_too" = true) (k8 : PySem.W.keepIn K (.ref f8) = true)
    (a9 : PySem.W.nsIn K mainGlobals "_law_right" = some (some (.ref f9))) (l9 : K.lookup f9 = some ⟨oc9, od9, .func (PySem.W.fnOf "_law_right" "_law_right" (defArgs sRight) (defBody sRight) (defScope sRight) .none kV9 dc9 pm9 an9 cd9 ct9), sl9⟩) (c9 : PySem.W.codeIn K cd9 "_law_right" = true) (k9 : PySem.W.keepIn K (.ref f9) = true)
    (a10 : PySem.W.nsIn K mainGlobals "law" = some (some (.ref f10))) (l10 : K.lookup f10 = some ⟨oc10, od10, .func (PySem.W.fnOf "law" "law" (defArgs sLaw) (defBody sLaw) (defScope sLaw) .none kV10 dc10 pm10 an10 cd10 ct10), sl10⟩) (c10 : PySem.W.codeIn K cd10 "law" = true) (k10 : PySem.W.keepIn K (.ref f10) = true)
    (z0 : PySem.W.nsIn K mainGlobals "len" = some none)
    (z1 : PySem.W.nsIn K mainGlobals "sum" = some none)
    (z2 : PySem.W.nsIn K mainGlobals "int" = some none)
    (z3 : PySem.W.nsIn K mainGlobals "abs" = some none)
    (z4 : PySem.W.nsIn K mainGlobals "list" = some none)
    (z5 : PySem.W.nsIn K mainGlobals "range" = some none)
    (z6 : PySem.W.nsIn K mainGlobals "max" = some none)
    (z7 : PySem.W.nsIn K mainGlobals "min" = some none)
    (z8 : PySem.W.nsIn K mainGlobals "enumerate" = some none)
    (z9 : PySem.W.nsIn K mainGlobals "repr" = some none)
    (z10 : PySem.W.nsIn K mainGlobals "all" = some none)
    (z11 : PySem.W.nsIn K mainGlobals "ValueError" = some none)
    : ∃ fd : FuncData, (∀ (s : Shared) (v : Value), BindsTo s fd ⟨[v], []⟩ [("script", v)]) ∧ ∀ base : Heap, K.In base → base.Ns mainGlobals mg → FnG P w K mg base CX0 6 fa fd ["script"] (spLaw K) := by
  have e := hfa.symm.trans (PySem.W.mg_of X G a10)
  cases e
  have B : Blt mg := ⟨PySem.W.mg_none_of X G z0, PySem.W.mg_none_of X G z1, PySem.W.mg_none_of X G z2, PySem.W.mg_none_of X G z3, PySem.W.mg_none_of X G z4, PySem.W.mg_none_of X G z5, PySem.W.mg_none_of X G z6, PySem.W.mg_none_of X G z7⟩
  have B2 : Blt2 mg := ⟨PySem.W.mg_none_of X G z8, PySem.W.mg_none_of X G z9, PySem.W.mg_none_of X G z10, PySem.W.mg_none_of X G z11⟩
  have FI := fun_mk (st := sIni) lI cI kI
  have bI := FI.binds (ps := ["self", "value"]) fun _ _ _ _ _ _ us hl => match us, hl with | [_, _], _ => rfl
  have F0 := fun_mk (st := sPot) l0 c0 k0
  have b0 := F0.binds (ps := ["script", "place"]) fun _ _ _ _ _ _ us hl => match us, hl with | [_, _], _ => rfl
  have F1 := fun_mk (st := sTake) l1 c1 k1
  have b1 := F1.binds (ps := ["pot", "upto"]) fun _ _ _ _ _ _ us hl => match us, hl with | [_, _], _ => rfl
  have F2 := fun_mk (st := sOf) l2 c2 k2
  have b2 := F2.binds (ps := ["pot", "some"]) fun _ _ _ _ _ _ us hl => match us, hl with | [_, _], _ => rfl
  have F3 := fun_mk (st := sCells) l3 c3 k3
  have b3 := F3.binds (ps := ["script", "most"]) fun _ _ _ _ _ _ us hl => match us, hl with | [_, _], _ => rfl
  have F4 := fun_mk (st := sOdd) l4 c4 k4
  have b4 := F4.binds (ps := ["pot"]) fun _ _ _ _ _ _ us hl => match us, hl with | [_], _ => rfl
  have F5 := fun_mk (st := sMade) l5 c5 k5
  have b5 := F5.binds (ps := ["value"]) fun _ _ _ _ _ _ us hl => match us, hl with | [_], _ => rfl
  have F6 := fun_mk (st := sMadeT) l6 c6 k6
  have b6 := F6.binds (ps := ["value"]) fun _ _ _ _ _ _ us hl => match us, hl with | [_], _ => rfl
  have F7 := fun_mk (st := sKinds) l7 c7 k7
  have b7 := F7.binds (ps := ["error"]) fun _ _ _ _ _ _ us hl => match us, hl with | [_], _ => rfl
  have F8 := fun_mk (st := sKindsT) l8 c8 k8
  have b8 := F8.binds (ps := ["error"]) fun _ _ _ _ _ _ us hl => match us, hl with | [_], _ => rfl
  have F9 := fun_mk (st := sRight) l9 c9 k9
  have b9 := F9.binds (ps := ["pot"]) fun _ _ _ _ _ _ us hl => match us, hl with | [_], _ => rfl
  have F10 := fun_mk (st := sLaw) l10 c10 k10
  refine ⟨PySem.W.fnOf "law" "law" (defArgs sLaw) (defBody sLaw) (defScope sLaw) .none kV10 dc10 pm10 an10 cd10 ct10, fun s v => .of_eq rfl, fun base _ _ => ?_⟩
  have GI : FnOk P w K mg base CX0 1 fI _ ["self", "value"] (spIniX K) := ok_ini FI
  have GPot : FnOk P w K mg base CX0 1 f0 _ ["script", "place"] (spPot K) := ok_pot F0 B
  have GTake : FnOk P w K mg base CX0 1 f1 _ ["pot", "upto"] spTake := ok_take F1 B
  have GOf : FnOk P w K mg base CX0 2 f2 _ ["pot", "some"] (spOf K) := ok_of F2 B GTake (PySem.W.mg_of X G a1) k1 b1
  have GCells : FnOk P w K mg base CX0 1 f3 _ ["script", "most"] (spCells K) := ok_cells F3 B
  have GOdd : FnOk P w K mg base CX0 3 f4 _ ["pot"] spOdd := ok_odd F4 GOf (PySem.W.mg_of X G a2) k2 b2
  have GMT : FnOk P w K mg base CX0 3 f6 _ ["value"] (spMade c (csB c)) := ok_madeT F6 T GI bI
  have GM : FnOk P w K mg base CX0 4 f5 _ ["value"] (spMade c (csA c ++ csB c)) := ok_made F5 T GI bI GMT (PySem.W.mg_of X G a6) k6 b6
  have GKT := ok_kindsT (P := P) (w := w) (base := base) (mg := mg) (k := 0) F8 T
  have GK : FnOk P w K mg base CX0 2 f7 _ ["error"] (spKinds c (List.range 26)) := ok_kinds F7 T GKT (PySem.W.mg_of X G a8) k8 b8
  have GR : FnG P w K mg base CX0 5 f9 _ ["pot"] spRight := ok_right F9 B B2 T (GI.mono (show 1 ≤ 3 by decide)) bI (GOdd.mono (show 3 ≤ 4 by decide)) (PySem.W.mg_of X G a4) k4 b4 GM (PySem.W.mg_of X G a5) k5 b5 (GK.mono (show 2 ≤ 4 by decide)) (PySem.W.mg_of X G a7) k7 b7
  exact ok_law F10 B2 (GPot.mono (show 1 ≤ 5 by decide)) (PySem.W.mg_of X G a0) k0 b0 (GCells.mono (show 1 ≤ 5 by decide)) (PySem.W.mg_of X G a3) k3 b3 GR (PySem.W.mg_of X G a9) k9 b9
end Hw

set_option Elab.async false
open PySem PySem.W PyProof.Rows
set_option maxRecDepth 100000 in
set_option maxHeartbeats 0 in
theorem PySem.Challenge.cw_healedwebs_k51_errors_keep_any_value_holds : PySem.Challenge.rw_healedwebs_k51_errors_keep_any_value.Holds := by
  w_on; o_law; k_head; (case hw => w_witness2)
  k_fill
  refine Hw.walkG (l := PySem.Challenge.rw_healedwebs_k51_errors_keep_any_value) (n := 63) (k := 6) (x := "script") (sp := fun w => Hw.spLaw _) rfl (by decide) rfl ⟨rfl, by decide, by decide⟩ (fun w h Y => PySem.W.kIn_of Y) ?F (fun _ _ a ns hl _ hS => ⟨a, ns, rfl, hS, hl, fun _ => rfl⟩)
  case F =>
    intro w mg fa h KX G hmg
    refine' Hw.all_mk KX G hmg (Hw.xt_of KX G ?q_g0 ?q_g1 ?q_g2 ?q_g3 ?q_g4 ?q_g5 ?q_g6 ?q_g7 ?q_g8 ?q_g9 ?q_g10 ?q_g11 ?q_g12 ?q_g13 ?q_g14 ?q_g15 ?q_g16 ?q_g17 ?q_g18 ?q_g19 ?q_g20 ?q_g21 ?q_g22 ?q_g23 ?q_g24 ?q_g25 ?q_g26 ?q_ai ?q_hx ?q_hk ?q_hi) ?q_lI ?q_cI ?q_kI ?q_a0 ?q_l0 ?q_c0 ?q_k0 ?q_a1 ?q_l1 ?q_c1 ?q_k1 ?q_a2 ?q_l2 ?q_c2 ?q_k2 ?q_a3 ?q_l3 ?q_c3 ?q_k3 ?q_a4 ?q_l4 ?q_c4 ?q_k4 ?q_a5 ?q_l5 ?q_c5 ?q_k5 ?q_a6 ?q_l6 ?q_c6 ?q_k6 ?q_a7 ?q_l7 ?q_c7 ?q_k7 ?q_a8 ?q_l8 ?q_c8 ?q_k8 ?q_a9 ?q_l9 ?q_c9 ?q_k9 ?q_a10 ?q_l10 ?q_c10 ?q_k10 ?q_z0 ?q_z1 ?q_z2 ?q_z3 ?q_z4 ?q_z5 ?q_z6 ?q_z7 ?q_z8 ?q_z9 ?q_z10 ?q_z11
    (case q_g0 => k_is)
    (case q_g1 => k_is)
    (case q_g2 => k_is)
    (case q_g3 => k_is)
    (case q_g4 => k_is)
    (case q_g5 => k_is)
    (case q_g6 => k_is)
    (case q_g7 => k_is)
    (case q_g8 => k_is)
    (case q_g9 => k_is)
    (case q_g10 => k_is)
    (case q_g11 => k_is)
    (case q_g12 => k_is)
    (case q_g13 => k_is)
    (case q_g14 => k_is)
    (case q_g15 => k_is)
    (case q_g16 => k_is)
    (case q_g17 => k_is)
    (case q_g18 => k_is)
    (case q_g19 => k_is)
    (case q_g20 => k_is)
    (case q_g21 => k_is)
    (case q_g22 => k_is)
    (case q_g23 => k_is)
    (case q_g24 => k_is)
    (case q_g25 => k_is)
    (case q_g26 => k_is)
    (case q_a0 => k_is)
    (case q_a1 => k_is)
    (case q_a2 => k_is)
    (case q_a3 => k_is)
    (case q_a4 => k_is)
    (case q_a5 => k_is)
    (case q_a6 => k_is)
    (case q_a7 => k_is)
    (case q_a8 => k_is)
    (case q_a9 => k_is)
    (case q_a10 => k_is)
    (case q_hi => k_is)
    (case q_ai => k_is)
    (case q_lI => k_is)
    (case q_cI => k_is)
    (case q_kI => k_is)
    (case q_l0 => k_is)
    (case q_c0 => k_is)
    (case q_k0 => k_is)
    (case q_l1 => k_is)
    (case q_c1 => k_is)
    (case q_k1 => k_is)
    (case q_l2 => k_is)
    (case q_c2 => k_is)
    (case q_k2 => k_is)
    (case q_l3 => k_is)
    (case q_c3 => k_is)
    (case q_k3 => k_is)
    (case q_l4 => k_is)
    (case q_c4 => k_is)
    (case q_k4 => k_is)
    (case q_l5 => k_is)
    (case q_c5 => k_is)
    (case q_k5 => k_is)
    (case q_l6 => k_is)
    (case q_c6 => k_is)
    (case q_k6 => k_is)
    (case q_l7 => k_is)
    (case q_c7 => k_is)
    (case q_k7 => k_is)
    (case q_l8 => k_is)
    (case q_c8 => k_is)
    (case q_k8 => k_is)
    (case q_l9 => k_is)
    (case q_c9 => k_is)
    (case q_k9 => k_is)
    (case q_l10 => k_is)
    (case q_c10 => k_is)
    (case q_k10 => k_is)
    (case q_z0 => k_is)
    (case q_z1 => k_is)
    (case q_z2 => k_is)
    (case q_z3 => k_is)
    (case q_z4 => k_is)
    (case q_z5 => k_is)
    (case q_z6 => k_is)
    (case q_z7 => k_is)
    (case q_z8 => k_is)
    (case q_z9 => k_is)
    (case q_z10 => k_is)
    (case q_z11 => k_is)
    (case q_hx => kernel_rfl)
    (case q_hk => kernel_rfl)
