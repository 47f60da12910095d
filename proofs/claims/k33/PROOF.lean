import PyProof.Rows.All
import Wide.All
import OpenK.AllK
import Wide.FinOn
import KE.KExcIs
import HandS.ForMost
import HandS.ForExc
import HandS.Codes
import HandS.Wide
import HandS.IsInst
import HandS.ExcInit
import HandS.ExcField
import HandS.ExcIs
import HandS.TryMany
import HandS.CallSlots
import HandS.Defaults
import HandS.Gcd
import HandS.DeepEq
import HandS.Flow
import HandS.TupLe
import PyProof.SumWalk
import PyProof.Rows.CountFlat

import HandS.Walk
import KE.GoesEnum
import HandS.SortInts
import HandS.Style
import HandS.Conv
import HandS.StrMore
import HandS.DictComp
import HandS.Head0
import HandS.Head1
import HandS.Head2
import HandS.Head3
import HandS.HeadEnd
import HandS.HeadHook1
import HandS.HeadHook2
import KE.KStateDown
import HandS.WideBits
import HandS.Star
import HandS.Zip
import KE.GoesMore
import KE.KDictZip
import KE.KStar
import PyProof.ListNew
import PySem.Challenge.RW_watchedways_k33_turned_and_beside
set_option Elab.async false

set_option Elab.async false
set_option linter.all false
set_option maxRecDepth 100000
set_option maxHeartbeats 4000000
set_option exponentiation.threshold 3000

/-! ### readings, step by step -/
namespace RD
open PySem L2
section
variable {σ : St} {H : Hp} {Q : VK} {B : Bool → Hp → Prop} {A : List V → Hp → Prop} {K : PySem.W.Frag} {v x y : V} {i j : Int} {n : Nat} {ta tb tc te : TE} {tA tB' : TT} {r r' : R2} {t : TA}
theorem d_var {n : Nat} {v : V} (e : σ[n]? = some (some v)) (h : Q v H) : tVar n σ H Q := ⟨v, e, h⟩
theorem d_c (h : Q v H) : tC v σ H Q := h
theorem d_op (h : ta σ H fun x H1 => tb σ H1 fun y H2 => r x y H2 Q) : tOp r ta tb σ H Q := h
theorem d_un {r : V → Hp → VK → Prop} (h : ta σ H fun x H1 => r x H1 Q) : tUn r ta σ H Q := h
theorem d_cb {r : List V → Hp → VK → Prop} (h : t σ H fun vs H1 => r vs H1 Q) : tCB r t σ H Q := h
theorem d_call {sp : Sp} {dvs : List V} {E : XK} (h : t σ H fun vs H1 => sp (vs ++ dvs) H1 Q E) : tCall sp dvs E t σ H Q := h
theorem d_nil (h : A [] H) : tNil σ H A := h
theorem d_cons {ta : TE} {tr : TA} (h : ta σ H fun x H1 => tr σ H1 fun xs H2 => A (x :: xs) H2) : tCons ta tr σ H A := h
theorem d_lst (h : t σ H fun xs H1 => xs.length ≤ sizeLine ∧ ∀ p, H1 p = none → Q (.ref p) (upd H1 p (.lst xs))) : tLst t σ H Q := h
theorem d_tup (h : t σ H fun xs H1 => xs.length ≤ sizeLine ∧ ∀ p, H1 p = none → Q (.ref p) (upd H1 p (.tup xs))) : tTup t σ H Q := h
theorem d_test (h : ta σ H fun x H' => ∃ k, x = .bl k ∧ B k H') : tTest ta σ H B := h
theorem d_tB (h : ta σ H fun x H' => ∃ k, x = .bl k ∧ B k H') : L2.tB ta σ H B := h
theorem d_bl {b : Bool} {R : Bool → Prop} (h : R b) : ∃ k, V.bl b = .bl k ∧ R k := ⟨b, rfl, h⟩
theorem d_and (h : tA σ H fun c H1 => if c = true then tB' σ H1 B else B false H1) : tAnd tA tB' σ H B := h
theorem d_or (h : tA σ H fun c H1 => if c = true then B true H1 else tB' σ H1 B) : tOr tA tB' σ H B := h
theorem d_not (h : tA σ H fun c H1 => B (!c) H1) : tNot tA σ H B := h
theorem d_andV (h : ta σ H fun x H1 => ∃ c, x = .bl c ∧ if c = true then tb σ H1 Q else Q (.bl false) H1) : tAndV ta tb σ H Q := h
theorem d_orV (h : ta σ H fun x H1 => ∃ c, x = .bl c ∧ if c = true then Q (.bl true) H1 else tb σ H1 Q) : tOrV ta tb σ H Q := h
theorem d_notV (h : ta σ H fun x H1 => ∃ c, x = .bl c ∧ Q (.bl (!c)) H1) : tNotV ta σ H Q := h
theorem d_if (h : tA σ H fun c H1 => if c = true then ta σ H1 Q else tb σ H1 Q) : tIf tA ta tb σ H Q := h
theorem d_rI0 {g : Int → Int → V} (h : Q (g i j) H) : rI0 g (.int i) (.int j) H Q := ⟨i, j, rfl, rfl, h⟩
theorem d_rI {C : Int → Int → Prop} {g : Int → Int → V} (c : C i j) (h : Q (g i j) H) : rI C g (.int i) (.int j) H Q := ⟨i, j, rfl, rfl, c, h⟩
theorem d_rU {g : Int → V} (h : Q (g i) H) : rU g (.int i) H Q := ⟨i, rfl, h⟩
theorem d_eqI (h : Q (.bl (decide (i = j))) H) : rEq (.int i) (.int j) H Q := ⟨rfl, by
  have e : decide (V.int i = V.int j) = decide (i = j) := by rw [dec_int, Bool.eq_iff_iff]; simp
  rw [e]; exact h⟩
theorem d_neI (h : Q (.bl (!decide (i = j))) H) : rNe (.int i) (.int j) H Q := ⟨rfl, by
  have e : decide (V.int i = V.int j) = decide (i = j) := by rw [dec_int, Bool.eq_iff_iff]; simp
  rw [e]; exact h⟩
theorem d_eqB {i j : Bool} (h : Q (.bl (decide (i = j))) H) : rEq (.bl i) (.bl j) H Q := ⟨rfl, by
  have e : decide (V.bl i = V.bl j) = decide (i = j) := by rw [dec_bl, Bool.eq_iff_iff]; simp
  rw [e]; exact h⟩
theorem d_eqS {i j : Str} (h : Q (.bl (decide (i = j))) H) : rEq (.str i) (.str j) H Q := ⟨rfl, by
  have e : decide (V.str i = V.str j) = decide (i = j) := by rw [dec_str, Bool.eq_iff_iff]; simp
  rw [e]; exact h⟩
theorem d_neS {i j : Str} (h : Q (.bl (!decide (i = j))) H) : rNe (.str i) (.str j) H Q := ⟨rfl, by
  have e : decide (V.str i = V.str j) = decide (i = j) := by rw [dec_str, Bool.eq_iff_iff]; simp
  rw [e]; exact h⟩
theorem d_ixL {p : Addr} {xs : List V} {v : V} (hs : SqL K H p xs) (e : atI xs i = some v) (h : Q v H) : rIxL K (.ref p) (.int i) H Q := ⟨p, xs, i, v, rfl, rfl, hs, e, h⟩
theorem d_ixT {p : Addr} {xs : List V} {v : V} (hs : SqT K H p xs) (e : atI xs i = some v) (h : Q v H) : rIxT K (.ref p) (.int i) H Q := ⟨p, xs, i, v, rfl, rfl, hs, e, h⟩
theorem d_setL {p : Addr} {xs : List V} {k : Nat} {R : Hp → Prop} (hp : H p = some (.lst xs)) (e : ixN xs.length i = some k) (h : R (upd H p (.lst (xs.set k v)))) : rSetL (.ref p) (.int i) v H R := ⟨p, xs, i, k, rfl, rfl, hp, e, h⟩
theorem d_gname {R : St → Hp → Prop} (h : R (σ.set n (some v)) H) : gName n v σ H R := h
theorem d_gsub {to ti : TE} {ts : TSet} {R : St → Hp → Prop} (h : to σ H fun o H1 => ti σ H1 fun i H2 => ts o i v H2 fun H3 => R σ H3) : gSub to ti ts v σ H R := h
section
variable {nx bk ct : St → Hp → Prop} {rt : VK} {u w : TS} {g : TG}
theorem d_seq (h : u ⟨w ⟨nx, rt, bk, ct⟩, rt, bk, ct⟩ σ H) : tSeq u w ⟨nx, rt, bk, ct⟩ σ H := h
theorem d_asg (h : te σ H fun x H1 => g x σ H1 nx) : tAsg te g ⟨nx, rt, bk, ct⟩ σ H := h
theorem d_ret (h : te σ H rt) : tRet te ⟨nx, rt, bk, ct⟩ σ H := h
theorem d_next (h : nx σ H) : tNext ⟨nx, rt, bk, ct⟩ σ H := h
theorem d_drop (h : te σ H fun _ H1 => nx σ H1) : tDrop te ⟨nx, rt, bk, ct⟩ σ H := h
theorem d_ifS (h : tA σ H fun b H1 => if b = true then u ⟨nx, rt, bk, ct⟩ σ H1 else w ⟨nx, rt, bk, ct⟩ σ H1) : tIfS tA u w ⟨nx, rt, bk, ct⟩ σ H := h
theorem d_cut (Mid : St → Hp → Prop) (h : u ⟨Mid, rt, bk, ct⟩ σ H) (k : ∀ σ' H', Mid σ' H' → w ⟨nx, rt, bk, ct⟩ σ' H') : C8.tCut u w ⟨nx, rt, bk, ct⟩ σ H := ⟨Mid, h, k⟩
theorem d_par {t : TA} {i j : Nat} (h : t σ H fun vs H1 => ∃ v w, vs = [v, w] ∧ nx ((σ.set i (some v)).set j (some w)) H1) : tPar i j t ⟨nx, rt, bk, ct⟩ σ H := h
end
def rInt1 : List V → Hp → VK → Prop := fun xs H Q => (∃ i, xs = [.int i] ∧ Q (.int i) H) ∨ ∃ k, xs = [.bl k] ∧ Q (.int (if k then 1 else 0)) H
theorem c_int {X : Cx} : CallR X (.type "int") rInt1 := call_int1
theorem d_int (h : Q (.int i) H) : rInt1 [.int i] H Q := .inl ⟨i, rfl, h⟩
theorem d_intB {b : Bool} (h : Q (.int (if b then 1 else 0)) H) : rInt1 [.bl b] H Q := .inr ⟨b, rfl, h⟩
def rAbs : List V → Hp → VK → Prop := fun xs H Q => ∃ i, xs = [.int i] ∧ Q (.int (if i < 0 then -i else i)) H
theorem c_abs {X : Cx} : CallR X (.builtin "abs") rAbs := call_abs
theorem d_abs (h : Q (.int (if i < 0 then -i else i)) H) : rAbs [.int i] H Q := ⟨i, rfl, h⟩
def rLen (K : PySem.W.Frag) : List V → Hp → VK → Prop := fun xs H Q => ∃ x n, xs = [x] ∧ LenV K x H n ∧ Q (.int n) H
theorem c_len {X : Cx} : CallR X (.builtin "len") (rLen X.K) := call_len
theorem d_lenL {p : Addr} {xs : List V} (hs : SqL K H p xs) (h : Q (.int xs.length) H) : rLen K [.ref p] H Q := ⟨_, _, rfl, .inl ⟨xs, hs, rfl⟩, h⟩
theorem d_lenT {p : Addr} {xs : List V} (hs : SqT K H p xs) (h : Q (.int xs.length) H) : rLen K [.ref p] H Q := ⟨_, _, rfl, .inr ⟨xs, hs, rfl⟩, h⟩
theorem d_lenS {z : Str} (hs : z.length ≤ sizeLine) (h : Q (.int z.length) H) : rLen K [.str z] H Q := ⟨_, _, rfl, ⟨hs, rfl⟩, h⟩
def rIsN : R2 := fun x y H Q => y = .non ∧ Q (.bl (decide (x = .non))) H
theorem o_isN {X : Cx} : OpR X (compareOp .Is) rIsN := op_isN
theorem d_isN (h : Q (.bl (decide (x = .non))) H) : rIsN x .non H Q := ⟨rfl, h⟩
def rNotN : R2 := fun x y H Q => y = .non ∧ Q (.bl (!decide (x = .non))) H
theorem o_notN {X : Cx} : OpR X (compareOp .IsNot) rNotN := op_notN
theorem d_notN (h : Q (.bl (!decide (x = .non))) H) : rNotN x .non H Q := ⟨rfl, h⟩
theorem d_iList {tl : TE} {R : It → Hp → Prop} (h : tl σ H fun x H1 => ∃ a, x = .ref a ∧ (∃ xs, SqL K H1 a xs) ∧ R (Itl K a) H1) : iList K tl σ H R := h
theorem d_refL {p : Addr} {xs : List V} {R : Addr → Prop} (hs : SqL K H p xs) (h : R p) : ∃ a, V.ref p = .ref a ∧ (∃ xs, SqL K H a xs) ∧ R a := ⟨p, rfl, ⟨xs, hs⟩, h⟩
theorem d_rng1 {t : TA} {R : It → Hp → Prop} (h : t σ H fun vs H1 => ∃ j : Int, vs = [.int j] ∧ -(2 ^ 62) ≤ j ∧ j < 2 ^ 62 ∧ R (Itr 0 j.toNat) H1) : iRng1 t σ H R := h
theorem d_lc {wi : TI} {g : TG} {tt : TT} {vs : List Nat} (h : wi σ H fun J H1 => ∀ D, H1 D = none → ∃ W : Nat → Nat → Hp → Prop, (∃ m, W 0 m (upd H1 D (.lst []))) ∧ ∀ i m H, W i m H →
  (J.stop i H ∧ Q (.ref D) H) ∨ (J.go i H ∧ ∃ Nx : Hp → Prop, (∀ H', Nx H' → ∃ m', m' < m ∧ W (i + 1) m' H') ∧ ∀ x H', J.yld i H x H' → g x (wipe σ vs) H' fun σ2 H2 => wipe σ2 vs = wipe σ vs ∧ tt σ2 H2 fun b H3 =>
    if b = true then te σ2 H3 fun y H4 => ∃ acc, H4 D = some (.lst acc) ∧ acc.length < sizeLine ∧ Nx (upd H4 D (.lst (acc ++ [y]))) else Nx H3)) : tLc wi g tt te vs σ H Q := h
theorem d_yes (h : B true H) : tYes σ H B := h
theorem d_iteT {X Y : Prop} (h : X) : if true = true then X else Y := by rw [if_pos rfl]; exact h
theorem d_iteF {X Y : Prop} (h : Y) : if false = true then X else Y := by rw [if_neg Bool.false_ne_true]; exact h
theorem d_wipe {R : Prop} {vs : List Nat} {σ' : St} (e : wipe σ' vs = wipe σ vs) (h : R) : wipe σ' vs = wipe σ vs ∧ R := ⟨e, h⟩
theorem d_sl {r : V → Option Int → Option Int → Hp → VK → Prop} {tl th : TO} (h : te σ H fun x H1 => tl σ H1 fun l H2 => th σ H2 fun u H3 => r x l u H3 Q) : tSl r te tl th σ H Q := h
theorem d_noPart {Q : Option Int → Hp → Prop} (h : Q none H) : tNoPart σ H Q := h
theorem d_part {Q : Option Int → Hp → Prop} (h : te σ H fun x H1 => ∃ i, x = .int i ∧ Q (some i) H1) : tPart te σ H Q := h
theorem d_exI {R : Int → Prop} (h : R i) : ∃ k, V.int i = .int k ∧ R k := ⟨i, rfl, h⟩
theorem d_isi {c : V} {t u : Value} {b : Bool} (hc : ClsV c u) (ty : TyX K H x t) (e : PySem.W.kitOne K t u = some b) (h : Q (.bl b) H) : rIsi K [x, c] H Q := ⟨x, c, t, u, b, rfl, hc, ty, e, h⟩
theorem d_fld {f : Str} (h : ta σ H fun x H1 => ∃ a C dx fs v, x = .ref a ∧ H1 a = some (.ins C dx fs) ∧ Cls K C ∧ NoAttr K C f ∧ fs.lookup f = some v ∧ Q v H1) : tFld K ta f σ H Q := h
theorem d_iteNF {X Y : Prop} (h : X) : if (!false) = true then X else Y := by rw [if_pos (show (!false) = true from rfl)]; exact h
theorem d_iteNT {X Y : Prop} (h : Y) : if (!true) = true then X else Y := by rw [if_neg (by decide)]; exact h
theorem d_iteDT {P X Y : Prop} {inst : Decidable P} (c : P) (h : X) : if decide P = true then X else Y := by rw [if_pos (decide_eq_true c)]; exact h
theorem d_iteDF {P X Y : Prop} {inst : Decidable P} (c : ¬ P) (h : Y) : if decide P = true then X else Y := by rw [if_neg (by simpa using c)]; exact h
theorem d_gcd (h : Q (.int ((Nat.gcd i.natAbs j.natAbs : Nat) : Int)) H) : rGcd [.int i, .int j] H Q := ⟨i, j, rfl, h⟩
theorem d_sfld {f : Str} {tv : TE} {nx bk ct : St → Hp → Prop} {rt : VK} (h : tv σ H fun y H1 => ta σ H1 fun x H2 => ∃ a C dx fs, x = .ref a ∧ H2 a = some (.ins C dx fs) ∧ Cls K C ∧ NoAttr K C f ∧ fs.length < 1000 ∧
  nx σ (upd H2 a (.ins C dx (putF f y fs)))) : sFld K ta tv f ⟨nx, rt, bk, ct⟩ σ H := h
theorem d_for {wi : TI} {g : TG} {tb : TS} {nx bk ct : St → Hp → Prop} {rt : VK} (h : wi σ H fun J H1 => ∃ W : Nat → Nat → St → Hp → Prop, (∃ m, W 0 m σ H1) ∧ ∀ i m σ H, W i m σ H →
  (J.stop i H ∧ nx σ H) ∨ (J.go i H ∧ ∃ N : St → Hp → Prop, (∀ σ' H', N σ' H' → ∃ m', m' < m ∧ W (i + 1) m' σ' H') ∧ ∀ x H', J.yld i H x H' → g x σ H' fun σ2 H2 => tb ⟨N, rt, nx, N⟩ σ2 H2)) :
  tFor wi g tb ⟨nx, rt, bk, ct⟩ σ H := h
theorem f_range {lo : Int} {n : Nat} {g : TG} {tb : TS} {nx : St → Hp → Prop} {rt : VK} (Pv : Nat → St → Hp → Prop) (h0 : Pv 0 σ H)
    (hs : ∀ i σ H, i < n → Pv i σ H → g (.int (lo + i)) σ H fun σ2 H2 => tb ⟨Pv (i + 1), rt, nx, Pv (i + 1)⟩ σ2 H2) (hd : ∀ σ H, Pv n σ H → nx σ H) :
    ∃ W : Nat → Nat → St → Hp → Prop, (∃ m, W 0 m σ H) ∧ ∀ i m σ H, W i m σ H → ((Itr lo n).stop i H ∧ nx σ H) ∨ ((Itr lo n).go i H ∧ ∃ N : St → Hp → Prop, (∀ σ' H', N σ' H' → ∃ m', m' < m ∧ W (i + 1) m' σ' H') ∧
      ∀ x H', (Itr lo n).yld i H x H' → g x σ H' fun σ2 H2 => tb ⟨N, rt, nx, N⟩ σ2 H2) := for_range (D := ⟨nx, rt, fun _ _ => False, fun _ _ => False⟩) Pv h0 hs hd
theorem f_list {K : PySem.W.Frag} {a : Addr} {xs : List V} {g : TG} {tb : TS} {nx : St → Hp → Prop} {rt : VK} (Pv : Nat → St → Hp → Prop) (h0 : Pv 0 σ H) (hl : ∀ i σ H, i ≤ xs.length → Pv i σ H → SqL K H a xs)
    (hs : ∀ i x σ H, xs[i]? = some x → Pv i σ H → g x σ H fun σ2 H2 => tb ⟨Pv (i + 1), rt, nx, Pv (i + 1)⟩ σ2 H2) (hd : ∀ σ H, Pv xs.length σ H → nx σ H) :
    ∃ W : Nat → Nat → St → Hp → Prop, (∃ m, W 0 m σ H) ∧ ∀ i m σ H, W i m σ H → ((Itl K a).stop i H ∧ nx σ H) ∨ ((Itl K a).go i H ∧ ∃ N : St → Hp → Prop, (∀ σ' H', N σ' H' → ∃ m', m' < m ∧ W (i + 1) m' σ' H') ∧
      ∀ x H', (Itl K a).yld i H x H' → g x σ H' fun σ2 H2 => tb ⟨N, rt, nx, N⟩ σ2 H2) := for_list (D := ⟨nx, rt, fun _ _ => False, fun _ _ => False⟩) Pv h0 hl hs hd
theorem iteD {P X Y : Prop} {inst : Decidable P} (h1 : P → X) (h2 : ¬ P → Y) : if decide P = true then X else Y := by
  by_cases h : P
  · rw [if_pos (decide_eq_true h)]; exact h1 h
  · rw [if_neg (by simpa using h)]; exact h2 h
theorem iteN {P X Y : Prop} {inst : Decidable P} (h1 : ¬ P → X) (h2 : P → Y) : if (!decide P) = true then X else Y := by
  by_cases h : P
  · rw [if_neg (by simpa using h)]; exact h2 h
  · rw [if_pos (by simpa using h)]; exact h1 h
end
end RD

/-! ### own == and != of a class of the text -/
namespace OQ
open PySem L2 PySem.Spec PyProof.Rows
section
variable {X : Cx} {CX : CXT} {C f : Addr} {fd : FuncData} {ps : List Str} {sp : Sp} {E : XK} {k : Nat}
/-- a def of the text called somewhere below the body that runs -/
theorem run_at {A : Around} (hA : A.frames = X.A.frames) (hr : Room k A) {pins : List (Addr × Obj)} {σ : L2.St} {H : Hp} {s : Shared} {Q : VK} {us : List Value} {vs : List V}
    (F : FnOk X.prog X.w X.K X.mg X.base CX k f fd ps sp) (hb : Binds X.K fd ps []) (hx : Passes CX X E) (I : Inv X pins σ H s) (r : Vals vs us) (h : sp vs H Q E) :
    wpAny (model X.prog X.w) A (call (.ref f) us) (EP X pins σ Q) X.xe s := by
  have z := I.env0
  have e0 : Env0 X.prog X.w X.K X.mg X.base A X.stack s H := ⟨hA ▸ z.frames, z.mod, z.bs, z.bsz, z.funs, z.frf, z.hok, z.bare⟩
  have hl : us.length = ps.length := by rw [← r.length]; exact F.len _ _ _ _ h
  have b := hb s us I.kIn (by rw [List.append_nil]; exact hl)
  rw [List.append_nil] at b
  refine wpAny_call (codeAny_mono (F.run A X.stack s H ⟨us, []⟩ us vs Q E hr e0 b r h) ?_)
  rintro (e | fl) s' hq
  · exact hx pins σ H s e s' I hq
  · cases fl with
    | ret u => exact I.after hq
    | next => exact hq.elim
    | brk => exact hq.elim
    | cont => exact hq.elim
theorem cmpBack_of {pins : List (Addr × Obj)} {σ : L2.St} {Q : VK} {u : Value} {s' : Shared} (h : EP X pins σ Q u s') : PySem.W.CmpBack (EP X pins σ Q) u s' := by
  obtain ⟨v, H', I', r, q⟩ := h
  have e : EP X pins σ Q u s' := ⟨v, H', I', r, q⟩
  cases u <;> first
    | exact e
    | (exfalso; cases v <;> first | exact Value.noConfusion r | (obtain ⟨t, rt⟩ := r; exact Value.noConfusion rt))
/-- x == y by the __eq__ of x's class -/
def rOwnEq (K : PySem.W.Frag) (C : Addr) (sp : Sp) (E : XK) : R2 := fun x y H Q => ∃ a dx fs t, x = .ref a ∧ H a = some (.ins C dx fs) ∧ TyX K H y t ∧ PySem.W.notFirst K C t = true ∧ sp [x, y] H Q E
theorem op_ownEq (F : FnOk X.prog X.w X.K X.mg X.base CX k f fd ps sp) (hr : Room k X.A) (hs : PySem.W.findIn X.K (.ref C) "__eq__" = some (some (.ref f))) (hf : PySem.W.isFn X.K (.ref f) = true)
    (hb : Binds X.K fd ps []) (hx : Passes CX X E) : OpR X (compareOp .Eq) (rOwnEq X.K C sp E) := by
  intro pins s σ H x y v u Q I rx ry hq
  obtain ⟨a, dx, fs, t, rfl, ha, ty, nf, q⟩ := hq
  cases rx
  obtain ⟨_, J0, _⟩ := ins_get I.hok ha
  obtain ⟨_, J, _⟩ := J0.look
  obtain ⟨_, hF⟩ := I.fr
  obtain ⟨_, kx, hp, _⟩ := kit_of I ry ty
  exact PySem.W.cmp_K (op := .Eq) hr.units0 hF I.ok.mod.kin J (kx.ty _ _ I.kIn hp) nf hs hf
    (wpAny_mono (run_at rfl hr F hb hx I (vs := [V.ref a, y]) (us := [Value.ref a, u]) (Paired.cons (show RelV (V.ref a) (Value.ref a) from rfl) (Paired.cons ry .nil)) q) (fun _ _ z => cmpBack_of z) fun _ _ z => z)
/-- looking a builtin slot up at an instance and calling it -/
theorem ifBound_B {M : Model} {A : Around} {E : Value → Shared → Prop} {s : Shared} {K : PySem.W.Frag} {x C : Addr} {ox : Obj} {od : Option Obj} {name : Str} {id : String} {args : List Value} {Q : Option Value → Shared → Prop} (Z : K.In s.heap)
    (I : PySem.W.InstAt s.heap x ox C od) (hs : PySem.W.findIn K (.ref C) name = some (some (.builtin id))) (S : bindSpecial (.builtin id) (.ref x) = pure (Value.builtin id, [Value.ref x]))
    (h : wpAny M A (call (.builtin id) (.ref x :: args)) (fun v => Q (some v)) E s) : wpAny M A (callSpecialIfBound? (.ref x) name args) Q E s := by
  have fin : wpAny M A (call (.builtin id) ([Value.ref x] ++ args) >>= fun v => pure (some v)) Q E s :=
    wpAny_bind (wpAny_mono h (fun _ _ z => wpAny_pure z) fun _ _ z => z)
  have tail : wpAny M A (some <$> (pure (Value.builtin id, [Value.ref x]) : Sem (Value × List Value))) (fun a s' => wpAny M A (match a with
    | some (g, first) => call g (first ++ args) >>= fun v => pure (some v)
    | none => pure none) Q E s') E s := wpAny_bind (wpAny_pure (wpAny_pure fin))
  simp only [callSpecialIfBound?, bindSpecialIfBound?]
  refine wpAny_holding ?_
  refine wpAny_bind ?_
  refine wpAny_bind ?_
  refine wpAny_bind (I.type.here ?_)
  refine (PySem.W.looks_findIn Z hs).here ?_
  simp only [S]
  refine wpAny_bind ?_
  refine wpAny_askSetting ?_
  refine wpAny_ite ?_
  split
  · refine wpAny_bind ?_
    exact wpAny_pure (wpAny_pure fin)
  · refine wpAny_tryCatch ?_
    refine wpAny_bind ?_
    exact wpAny_pure (wpAny_pure fin)
/-- object.__ne__(x, y) by the own __eq__ -/
theorem ne_body {M : Program} {w : World} {A : Around} {E : Value → Shared → Prop} {s : Shared} {K : PySem.W.Frag} {x C f : Addr} {ox : Obj} {od : Option Obj} {b : Value} {Q : Fin → Shared → Prop} (Z : K.In s.heap) (hu : A.units < cLine)
    (I : PySem.W.InstAt s.heap x ox C od) (hs : PySem.W.findIn K (.ref C) "__eq__" = some (some (.ref f))) (hf : PySem.W.isFn K (.ref f) = true)
    (h : wpAny (model M w) A (call (.ref f) [.ref x, b]) (fun v s' => ∃ r, v = .bool r ∧ Q (.done (.ret (.bool (!r)))) s') E s) :
    wpAny (model M w) A (Builtin.«object.__ne__» ⟨[.ref x, b], []⟩) Q E s := by
  unfold Builtin.«object.__ne__»
  have step : wpAny (model M w) A (callSpecialIfBound? (.ref x) "__eq__" [b]) (fun o s' => ∃ r, o = some (.bool r) ∧ Q (.done (.ret (.bool (!r)))) s') E s :=
    PySem.W.ifBound_K Z I hs hf (wpAny_mono h (fun v s' ⟨r, e, q⟩ => ⟨r, by rw [e], q⟩) fun _ _ z => z)
  refine wpAny_bind (wpAny_of_eq (a := ((Value.ref x : Value), [b])) (by first | rfl | (simp only [slotArgs]; rfl)) ?_)
  dsimp only
  refine wpAny_bind (wpAny_cRoomFor hu ?_)
  refine wpAny_bind (wpAny_mono step (fun o s' hv => ?_) fun _ _ z => z)
  obtain ⟨r, rfl, q⟩ := hv
  dsimp only
  refine wpAny_bind ?_
  refine wpAny_truthy_bool ?_
  exact wpAny_pure q
end
/-- x != y by the __eq__ of x's class -/
def rOwnNe (K : PySem.W.Frag) (C : Addr) (sp : Sp) (E : XK) : R2 := fun x y H Q => ∃ a dx fs t, x = .ref a ∧ H a = some (.ins C dx fs) ∧ TyX K H y t ∧ PySem.W.notFirst K C t = true ∧ sp [x, y] H (fun v H' => ∃ r, v = .bl r ∧ Q (.bl (!r)) H') E
section
variable {X : Cx} {CX : CXT} {C f : Addr} {fd : FuncData} {ps : List Str} {sp : Sp} {E : XK} {k : Nat}
theorem op_ownNe (F : FnOk X.prog X.w X.K X.mg X.base CX k f fd ps sp) (hr : Room (k + 1) X.A) (hs : PySem.W.findIn X.K (.ref C) "__eq__" = some (some (.ref f))) (hf : PySem.W.isFn X.K (.ref f) = true)
    (hn : PySem.W.findIn X.K (.ref C) "__ne__" = some (some (.builtin "object.__ne__"))) (hm : PySem.W.mroIn X.K C (.type "object") = some true)
    (hb : Binds X.K fd ps []) (hx : Passes CX X E) : OpR X (compareOp .NotEq) (rOwnNe X.K C sp E) := by
  intro pins s σ H x y v u Q I rx ry hq
  obtain ⟨a, dx, fs, t, rfl, ha, ty, nf, q⟩ := hq
  cases rx
  obtain ⟨_, J0, _⟩ := ins_get I.hok ha
  obtain ⟨_, J, _⟩ := J0.look
  obtain ⟨_, hF⟩ := I.fr
  obtain ⟨_, kx, hp, _⟩ := kit_of I ry ty
  have hlook := kx.ty (model X.prog X.w) _ I.kIn hp
  have hu := hr.units0
  have body := ne_body (M := X.prog) (w := X.w) (A := X.A.in1) (E := X.xe) (b := u) (Q := fun fin s' => ∃ r : Bool, fin = .done (.ret (.bool r)) ∧ EP X pins σ Q (.bool r) s') I.kIn hr.in1.units0 J hs hf
    (wpAny_mono (run_at (A := X.A.in1) rfl hr.in1 F hb hx I (vs := [V.ref a, y]) (us := [Value.ref a, u]) (Paired.cons (show RelV (V.ref a) (Value.ref a) from rfl) (Paired.cons ry .nil)) q) (fun w' s' z => by
      obtain ⟨v', H', I', rr, r, e, q'⟩ := z
      subst e
      exact ⟨r, rr, !r, rfl, .bl (!r), H', I', rfl, q'⟩) fun _ _ z => z)
  have one : wpAny (model X.prog X.w) X.A (tryCompare (.ref a) "__ne__" u) (fun o s' => ∃ r : Bool, o = some (.bool r) ∧ EP X pins σ Q (.bool r) s') X.xe s := by
    unfold tryCompare
    refine wpAny_bind (ifBound_B I.kIn J hn (PySem.F.cmp_object.ne.bind _) (wpAny_call (codeAny_call_builtin PySem.F.cmp_object.ne.plain PySem.F.cmpEntry_ne ?_)))
    refine PySem.W.check_slot PySem.F.cmpKind_ne PySem.F.cmpSplit_ne (J.type.andThen (PySem.W.looks_mroIn I.kIn hm)) (PySem.F.cmpArgs_ne _ _) ?_
    refine wpAny_mono body (fun fin s' z => ?_) fun _ _ z => z
    obtain ⟨r, rfl, ep⟩ := z
    exact wpAny_pure ⟨r, rfl, ep⟩
  show wpAny (model X.prog X.w) X.A (richCompare .NotEq (.ref a) u) (EP X pins σ Q) X.xe s
  unfold richCompare
  simp only [oneThing_ref]
  refine wpAny_holding ?_
  refine wpAny_bind (wpAny_cRoomFor hu ?_)
  refine wpAny_bind (J.type.here ?_)
  refine wpAny_bind (hlook.here ?_)
  have fin : ∀ {β : Type} {z : Value → Sem Value} {y : Sem Value}, True := fun {_ _ _} => trivial
  split
  · rename_i qq
    have e : PySem.W.subIn X.K t (.ref C) = some false := by
      rcases Bool.or_eq_true_iff.mp nf with e | e
      · rw [beq_iff_eq.mp e] at qq
        simp at qq
      · exact beq_iff_eq.mp e
    refine wpAny_bind ((PySem.W.looks_subIn I.kIn e).here ?_)
    simp only [Bool.false_eq_true, if_false]
    refine wpAny_bind (wpAny_mono one (fun o s' z => ?_) fun _ _ z => z)
    obtain ⟨r, rfl, ep⟩ := z
    exact wpAny_pure ep
  · refine wpAny_bind (wpAny_pure ?_)
    simp only [Bool.false_eq_true, if_false]
    refine wpAny_bind (wpAny_mono one (fun o s' z => ?_) fun _ _ z => z)
    obtain ⟨r, rfl, ep⟩ := z
    exact wpAny_pure ep
end
end OQ

/-! ### errors: isinstance of a caught one that has fields; making an instance within a try -/
namespace OQ
open PySem L2 PySem.Spec PyProof.Rows
/-- isinstance(e, c), e the error that the suite holds at a: its class cls, its dict d -/
def rIsX (K : PySem.W.Frag) (D a : Addr) (cls : Value) (d : Option Addr) : List V → Hp → VK → Prop := fun xs H Q => ∃ (c : V) (cv : Value) (b : Bool) (dd : Addr) (fs : List (Str × V)),
  xs = [.ref a, c] ∧ cls = .ref D ∧ d = some dd ∧ H dd = some (.xd fs) ∧ ClsV c cv ∧ PySem.W.kitOne K (.ref D) cv = some b ∧ Q (.bl b) H
theorem call_isX {X : Cx} {a D : Addr} {cls : Value} {d : Option Addr} {oe : Obj} {pn : List (Addr × Obj)} (C : ExcC X.K D) (hz : Zc cls d oe) (hf : ∃ vs, oe.data = .fields vs) :
    CallR (X.suite a ((a, oe) :: pn)) (.builtin "isinstance") (rIsX X.K D a cls d) := by
  rintro pins s σ H xs us Q I r ⟨c, cv, b, dd, fs, rfl, rfl, rfl, hx, hc, e, q⟩
  cases r with
  | cons rx rr => cases rr with
    | cons rt rr =>
      cases rr
      cases rx
      have ec := hc.eq rt
      subst ec
      obtain ⟨hget, _⟩ := I.pin (a, oe) (List.mem_append_left _ (List.mem_cons_self ..))
      obtain ⟨vs, hv⟩ := hf
      obtain ⟨_, hns, _⟩ := (show ObjOk X.prog X.w H s.heap dd (.xd fs) from I.hok dd _ hx)
      obtain ⟨od, ho, _⟩ := lookIn_ns hns
      have J : PySem.W.InstAt s.heap a oe D (some od) := ⟨hget, hz.1, (by unfold PySem.W.notCls; rw [hv] <;> rfl), (by rw [hz.2]; exact ho)⟩
      have hcl : (PySem.W.clsIn X.K D).isSome = true := by
        obtain ⟨cd, h1, _⟩ := PySem.W.any_some C.hd
        rw [h1]; rfl
      exact PySem.W.kia_one (PySem.W.kitx_exc hcl C.hg C.hk C.hs C.ha C.hn C.ht C.hm) I.kIn J e (fun z => Value.noConfusion z) fun tk => ⟨.bl b, H, I.kept (t' := tk) fun _ _ z => z, rfl, q⟩
section
variable {X : Cx} {CX : CXT} {C f : Addr} {fd : FuncData} {ps : List Str} {sp : Sp} {k : Nat} {ds : List Value} {dvs : List V} {E : L2.St → XK} {x : Str} {p pos : Pos} {e : Expr} {es : List Expr} {t : TA}
/-- C(e, ..), what is raised wished for at the slots -/
def tMakeS (C : Addr) (sp : Sp) (dvs : List V) (E : L2.St → XK) (t : TA) : TE := fun σ H Q => t σ H fun vs H1 => ∀ x dx, H1 x = none → H1 dx = none → dx ≠ x →
  sp (.ref x :: (vs ++ dvs)) (upd (upd H1 dx (.own x)) x (.ins C dx [])) (fun v H2 => v = .non ∧ Q (.ref x) H2) (E σ)
theorem pe_makeS (M : Mk X.K C f) (F : FnOk X.prog X.w X.K X.mg X.base CX k f fd ps sp) (hr : Room (k + 1) X.A) (hg : Gl X x) (hm : X.mg x = some (.ref C)) (hb : Binds X.K fd ps ds) (hd : Vals dvs ds)
    (hx : ∀ σ, PassesAt CX X σ (E σ)) (ha : PA X (e :: es) t) (hdb : (x == ("__debug__" : Str)) = false := by decide)
    (he : starEach (e :: es) X.env = (false, eval e X.env) :: starEach es X.env := by rfl) (hpl : (backTo pos (starEach es X.env)).any (·.1) = false := by rfl) :
    PE X (.Call (.Name x p) (e :: es) [] pos) (tMakeS C sp dvs E t) := by
  refine ⟨fun pins s σ H Q I h => ?_⟩
  refine wpAny_Call_Name_kw (ld_glob I hg hm ?_ hdb)
  refine PySem.W.callWith_K (h₀ := X.base) I.ok.mod.kin M.kp (thn (ha.run pos pins s σ H _ I h) ?_) he hpl
  rintro us s1 ⟨vs, H1, I1, r, q⟩
  refine ⟨I1.kIn, ?_⟩
  have nx : H1 (s1.heap.objs.size + 1) = none := I1.hok.fresh (Nat.le_succ _)
  have ndx : H1 s1.heap.objs.size = none := I1.hok.fresh (Nat.le_refl _)
  have hq := q _ _ nx ndx (Nat.ne_of_lt (Nat.lt_succ_self _))
  have I2 := Inv.made (C := C) I1
  have r2 : Vals (V.ref (s1.heap.objs.size + 1) :: (vs ++ dvs)) (Value.ref (s1.heap.objs.size + 1) :: (us ++ ds)) := .cons rfl (r.append hd)
  have hl : (Value.ref (s1.heap.objs.size + 1) :: us ++ ds).length = ps.length := (r2.length.symm).trans (F.len _ _ _ _ hq)
  refine wpAny_call (make_map (f := f) I1.kIn M.makes M.init (beq_iff_eq.mp M.fn) (codeAny_mono (F.run _ X.stack _ _ _ _ _ _ (E σ) (hr.make C us []) (I2.env0.make C us []) (hb _ (_ :: us) I2.kIn hl) r2 hq) ?_))
  rintro (er | fl) s' hq'
  · exact hx σ pins _ _ er s' I2 hq'
  · cases fl with
    | ret u =>
      obtain ⟨v, H', I3, rv, ev, q3⟩ := I2.after hq'
      subst ev
      exact ⟨rv, V.ref (s1.heap.objs.size + 1), H', I3, rfl, q3⟩
    | next => exact hq'.elim
    | brk => exact hq'.elim
    | cont => exact hq'.elim
end
/-- // by a divisor of either sign, below 2 ^ 9000 -/
def CDivX (_ j : Int) : Prop := j ≠ 0 ∧ j.natAbs.log2 < 9000
theorem op_fdivX {X : Cx} : OpR X (binaryOp .FloorDiv) (rI CDivX fun i j => .int (i.fdiv j)) := opI fun i j _ _ _ _ _ hc q => floordiv_int hc.1 q (.inl (PyProof.noPylong_of_log2 hc.2))
end OQ

namespace OQ
open PySem L2
/-- one of two rules -/
theorem op_or {X : Cx} {f : Value → Value → Sem Value} {r1 r2 : R2} (h1 : OpR X f r1) (h2 : OpR X f r2) : OpR X f (fun x y H Q => r1 x y H Q ∨ r2 x y H Q) :=
  fun pins s σ H x y v u Q I rx ry h => h.elim (h1 pins s σ H x y v u Q I rx ry) (h2 pins s σ H x y v u Q I rx ry)
/-- what lets nothing out where the wish is empty -/
theorem passN {X : Cx} : Passes (L2.CX X.prog X.w) X E0 := fun pins σ H s e s' I h => by
  obtain ⟨_, _, _, _, _, _, _, _, _, _, _, _, f⟩ := h
  exact f.elim
section
variable {σ : L2.St} {H : Hp} {Q : VK} {K : PySem.W.Frag}
theorem d_makeS {C : Addr} {sp : Sp} {dvs : List V} {E : L2.St → XK} {t : TA} (h : t σ H fun vs H1 => ∀ x dx, H1 x = none → H1 dx = none → dx ≠ x →
  sp (.ref x :: (vs ++ dvs)) (upd (upd H1 dx (.own x)) x (.ins C dx [])) (fun v H2 => v = .non ∧ Q (.ref x) H2) (E σ)) : tMakeS C sp dvs E t σ H Q := h
theorem d_make {C : Addr} {sp : Sp} {dvs : List V} {E : XK} {t : TA} (h : t σ H fun vs H1 => ∀ x dx, H1 x = none → H1 dx = none → dx ≠ x →
  sp (.ref x :: (vs ++ dvs)) (upd (upd H1 dx (.own x)) x (.ins C dx [])) (fun v H2 => v = .non ∧ Q (.ref x) H2) E) : tMake C sp dvs E t σ H Q := h
end
end OQ
namespace OQ
open PySem L2
theorem d_isX {K : PySem.W.Frag} {D a : Addr} {cls : Value} {d : Option Addr} {H : Hp} {Q : VK} {c : V} {cv : Value} {b : Bool} {dd : Addr} {fs : List (Str × V)} (e1 : cls = .ref D) (e2 : d = some dd) (hx : H dd = some (.xd fs)) (hc : ClsV c cv)
    (e : PySem.W.kitOne K (.ref D) cv = some b) (h : Q (.bl b) H) : rIsX K D a cls d [.ref a, c] H Q := ⟨c, cv, b, dd, fs, rfl, e1, e2, hx, hc, e, h⟩
end OQ

/-! ### readings: chained comparisons -/
namespace RD
open PySem L2
theorem d_chain {r r' : R2} {ta tb tc : TE} {σ : L2.St} {H : Hp} {Q : VK} (h : ta σ H fun x H1 => tb σ H1 fun y H2 => r x y H2 fun z H3 => ∃ k, z = .bl k ∧ (if k = true then tc σ H3 fun u H4 => r' y u H4 Q else Q (.bl false) H3)) : tChain r r' ta tb tc σ H Q := h
variable {σ : L2.St} {H : Hp}
theorem f_tup {K : PySem.W.Frag} {a : Addr} {xs : List V} {g : TG} {tb : TS} {nx : L2.St → Hp → Prop} {rt : VK} (Pv : Nat → L2.St → Hp → Prop) (h0 : Pv 0 σ H) (hl : ∀ i σ H, i ≤ xs.length → Pv i σ H → SqT K H a xs)
    (hs : ∀ i x σ H, xs[i]? = some x → Pv i σ H → g x σ H fun σ2 H2 => tb ⟨Pv (i + 1), rt, nx, Pv (i + 1)⟩ σ2 H2) (hd : ∀ σ H, Pv xs.length σ H → nx σ H) :
    ∃ W : Nat → Nat → L2.St → Hp → Prop, (∃ m, W 0 m σ H) ∧ ∀ i m σ H, W i m σ H → ((Itt K a).stop i H ∧ nx σ H) ∨ ((Itt K a).go i H ∧ ∃ N : L2.St → Hp → Prop, (∀ σ' H', N σ' H' → ∃ m', m' < m ∧ W (i + 1) m' σ' H') ∧
      ∀ x H', (Itt K a).yld i H x H' → g x σ H' fun σ2 H2 => tb ⟨N, rt, nx, N⟩ σ2 H2) := for_tup (D := ⟨nx, rt, fun _ _ => False, fun _ _ => False⟩) Pv h0 hl hs hd
end RD

/-! ### a range as a value, and for over it -/
namespace OQ
open PySem L2 PySem.Spec PyProof.Rows
section
variable {X : Cx} {tg : Expr} {e : Expr} {te : TE}
theorem cr_range1 : CallR X (.type "range") (fun vs H Q => ∃ j : Int, vs = [V.int j] ∧ ∀ p, H p = none → Q (.ref p) (upd H p (.rng 0 j))) := by
  rintro pins s σ H vs us Q I r ⟨j, rfl, wish⟩
  cases r with
  | cons one rest =>
    cases rest
    obtain ⟨tok, rfl⟩ := one
    have free := I.hok.fresh (Nat.le_refl s.heap.objs.size)
    exact call_range_1 ⟨.ref s.heap.objs.size, _, I.laid (t' := s.toks + 1 + 1) (o := .rng 0 j) (fun _ _ z => Heap.get?_push_of_some _ z) (Nat.le_refl _) ⟨s.toks, tok, s.toks + 1, Heap.get?_push_size _ rfl⟩, rfl, wish _ free⟩
/-- for .. in e, e a range from lo to hi -/
def iRngV (te : TE) : TI := fun σ H R => te σ H fun x H1 => ∃ (a : Addr) (lo hi : Int), x = .ref a ∧ H1 a = some (.rng lo hi) ∧ (-(2 ^ 62) ≤ lo ∧ lo < 2 ^ 62 ∧ -(2 ^ 62) ≤ hi ∧ hi < 2 ^ 62) ∧ R (Itr lo (hi - lo).toNat) H1
theorem pi_rngV (he : PE X e te) : PI X tg e (iRngV te) := by
  refine ⟨fun pins s σ H R I asked => thn (he.run pins s σ H _ I asked) fun v s1 ⟨x, H1, I1, rx, a, lo, hi, ex, ea, ⟨b1, b2, b3, b4⟩, go⟩ => ?_⟩
  subst ex
  obtain rfl : v = Value.ref a := rx
  obtain ⟨t, u, w, there⟩ := I1.hok a _ ea
  have isr : IsRange s1.heap a lo hi 1 t u w := there
  have len : (((hi - lo).toNat : Nat) : Int) = Builtin.Range.rangeSize lo hi 1 := by rw [rangeSize_one]; split <;> omega
  refine wpAny_pyIter_range isr (small_one b1 b2 b3 b4) ⟨s1.heap.objs.size, [s1.heap.objs.size], _, _, H1, rfl, I1.kept (t' := s1.toks) fun _ _ z => Heap.get?_push_of_some _ z, turn_range _ lo (hi - lo).toNat, ?_, fun b hb => ?_, go⟩
  · show IsRangeIter _ _ (lo + ((0 : Nat) : Int) * 1) ((((hi - lo).toNat : Nat) : Int) - ((0 : Nat) : Int)) 1
    rw [len]
    simp only [Int.natCast_zero, Int.zero_mul, Int.add_zero, Int.sub_zero]
    exact Heap.get?_push_size _ rfl
  · obtain rfl : b = s1.heap.objs.size := by simpa using hb
    exact I1.fpOk (Nat.le_refl _) (I1.hok.fresh (Nat.le_refl _))
end
end OQ

/-! ### rules whose reading names K itself (for the blocks of comprehensions) -/
namespace OQ
open PySem L2 PySem.Spec PyProof.Rows
section
variable {X : Cx} {e : Expr} {ta : TE} {f : Str} {pos : Pos}
theorem ixL (K : PySem.W.Frag) (h : X.K = K := by rfl) : IxR X (rIxL K) := h ▸ ix_list
theorem ixT (K : PySem.W.Frag) (h : X.K = K := by rfl) : IxR X (rIxT K) := h ▸ ix_tup
theorem fldK (K : PySem.W.Frag) (he : PE X e ta) (h : X.K = K := by rfl) (hb : attributeBase e f X.env (eval e X.env) = eval e X.env := by rfl) : PE X (.Attribute e f pos) (tFld K ta f) := h ▸ pe_fld he hb
def rTupK (K : PySem.W.Frag) : List V → Hp → VK → Prop := fun xs H Q => ∃ p ys, xs = [.ref p] ∧ ((SqL K H p ys ∧ ∀ l, H l = none → Q (.ref l) (upd H l (.tup ys))) ∨ (SqT K H p ys ∧ Q (.ref p) H))
theorem tupK (K : PySem.W.Frag) (h : X.K = K := by rfl) : CallR X (.type "tuple") (rTupK K) := h ▸ call_tuple_of
theorem pi_listK (K : PySem.W.Frag) {tg : Expr} {l : Expr} {tl : TE} (hl : PE X l tl) (h : X.K = K := by rfl) : PI X tg l (iList K tl) := h ▸ pi_list hl
theorem pi_tupK (K : PySem.W.Frag) {tg : Expr} {l : Expr} {tl : TE} (hl : PE X l tl) (h : X.K = K := by rfl) : PI X tg l (iTup K tl) := h ▸ pi_tup hl
end
end OQ

/-! ### own errors as values: made, their fields read, isinstance of them -/
namespace OQ
open PySem L2 PySem.Spec PyProof.Rows
section
variable {X : Cx} {CX : CXT} {x n : Str} {C fI : Addr} {k : Nat} {fd : FuncData} {ps : List Str} {sp : Sp} {ds : List Value} {dvs : List V} {p pos : Pos} {e : Expr} {es : List Expr} {ta : TA} {te : TE} {E : XK}
/-- C(e, ..), C an own error: it stands as it was made -/
def tMkV (C : Addr) (sp : Sp) (dvs : List V) (E : XK) (ta : TA) : TE := fun σ H Q => ta σ H fun vs H1 => ∀ a, H1 a = none → sp (.ref a :: (vs ++ dvs)) (upd H1 a (exo a C none)) (fun v H2 => v = .non ∧ Q (.ref a) H2) E
/-- a new error: its place, and the state with it -/
theorem newErr {pins : List (Addr × Obj)} {st : Shared} {σ : L2.St} {H : Hp} (us : List Value) (D : Addr) (J : Inv X pins σ H st) :
    H (st.heap.objs.size + 1) = none ∧ Inv X pins σ (upd H (st.heap.objs.size + 1) (exo (st.heap.objs.size + 1) D none)) { st with heap := (st.heap.push (PySem.W.kdv_tup us)).push (PySem.HandSPX.excO D st.heap.objs.size) } := by
  have le := Nat.le_succ st.heap.objs.size
  refine ⟨J.hok.fresh le, J.laid (t' := st.toks) (fun _ _ z => Heap.get?_push_of_some _ (Heap.get?_push_of_some _ z)) le (exo_ok (t1 := st.heap.objs.size) ?_)⟩
  have z := Heap.get?_push_size (h := st.heap.push (PySem.W.kdv_tup us)) (o := PySem.HandSPX.excO D st.heap.objs.size) rfl
  have y : (st.heap.push (PySem.W.kdv_tup us)).objs.size = st.heap.objs.size + 1 := by simp [Heap.push]
  rw [y] at z
  exact z
theorem run_mkV {pins : List (Addr × Obj)} {st : Shared} {σ : L2.St} {H1 : Hp} {Q : VK} {vs : List V} {us : List Value} (T : OexC X.K C) (iC : PySem.W.findIn X.K (.ref C) "__init__" = some (some (.ref fI))) (tI : PySem.W.typeIn X.K (.ref fI) = some (.type "function"))
    (F1 : FnOk X.prog X.w X.K X.mg X.base CX k fI fd ps sp) (hr : Room (k + 1) X.A) (hb : Binds X.K fd ps ds) (hd : Vals dvs ds) (hx : Passes CX X E) (few : ps.length ≤ 100) (J : Inv X pins σ H1 st) (rv : Vals vs us)
    (wish : ∀ a, H1 a = none → sp (.ref a :: (vs ++ dvs)) (upd H1 a (exo a C none)) (fun v H2 => v = .non ∧ Q (.ref a) H2) E) : wpAny (model X.prog X.w) X.A (call (.ref C) us) (EP X pins σ Q) X.xe st := by
  obtain ⟨free, J2⟩ := newErr us C J
  have asked := wish _ free
  have all : Vals (V.ref (st.heap.objs.size + 1) :: (vs ++ dvs)) (Value.ref (st.heap.objs.size + 1) :: (us ++ ds)) := .cons rfl (rv.append hd)
  have many : (Value.ref (st.heap.objs.size + 1) :: us ++ ds).length = ps.length := (all.length.symm).trans (F1.len _ _ _ _ asked)
  have short : us.length ≤ sizeLine := by
    have q : (Value.ref (st.heap.objs.size + 1) :: us ++ ds).length ≤ 100 := many ▸ few
    simp only [List.cons_append, List.length_cons, List.length_append] at q
    exact Nat.le_trans (show us.length ≤ 100 by omega) (by decide)
  have body := F1.run _ X.stack _ _ ⟨Value.ref (st.heap.objs.size + 1) :: us, []⟩ _ _ _ E (hr.make C us []) (J2.env0.make C us []) (hb _ (_ :: us) J2.kIn many) all asked
  obtain ⟨_, _, _, _, bm, _, _, _, _, _, _, _, _, _, _, look, good⟩ := T.cls
  refine wpAny_call (PySem.HandSPX.call_own F.excBase_ValueError (fun _ => PySem.HandSPX.refsVE_contains _ bm good) (J.kIn _ _ look) (PySem.W.looks_findIn J.kIn iC) (fun v => PySem.W.bind_fn J.kIn v tI) short (codeAny_mono body ?_))
  rintro (er | fl) s2 post
  · exact hx pins σ _ _ er s2 J2 post
  · match fl, post with
    | .ret u, post =>
      obtain ⟨v, H2, J3, ru, e, q⟩ := J2.after post
      subst e
      exact ⟨ru, V.ref (st.heap.objs.size + 1), H2, J3, rfl, q⟩
theorem pe_mkV (T : OexC X.K C) (iC : PySem.W.findIn X.K (.ref C) "__init__" = some (some (.ref fI))) (tI : PySem.W.typeIn X.K (.ref fI) = some (.type "function"))
    (F1 : FnOk X.prog X.w X.K X.mg X.base CX k fI fd ps sp) (hr : Room (k + 1) X.A) (hb : Binds X.K fd ps ds) (hd : Vals dvs ds) (hx : Passes CX X E) (hsz : ps.length ≤ 100) (hg : Gl X x) (hm : X.mg x = some (.ref C)) (ha : PA X (e :: es) ta)
    (hdb : (x == ("__debug__" : Str)) = false := by decide) (he : starEach (e :: es) X.env = (false, eval e X.env) :: starEach es X.env := by rfl) (hpl : (backTo pos (starEach es X.env)).any (·.1) = false := by rfl) :
    PE X (.Call (.Name x p) (e :: es) [] pos) (tMkV C sp dvs E ta) := by
  refine ⟨fun pins s σ H Q I h => ?_⟩
  refine wpAny_Call_Name_kw (ld_glob I hg hm ?_ hdb)
  refine PySem.W.callWith_K (h₀ := X.base) I.ok.mod.kin T.kC (thn (ha.run pos pins s σ H _ I h) fun us s1 ⟨vs, H1, I1, r1, q1⟩ => ⟨I1.kIn, ?_⟩) he hpl
  exact run_mkV T iC tI F1 hr hb hd hx hsz I1 r1 q1
theorem pe_mkV0 (T : OexC X.K C) (iC : PySem.W.findIn X.K (.ref C) "__init__" = some (some (.ref fI))) (tI : PySem.W.typeIn X.K (.ref fI) = some (.type "function"))
    (F1 : FnOk X.prog X.w X.K X.mg X.base CX k fI fd ps sp) (hr : Room (k + 1) X.A) (hb : Binds X.K fd ps ds) (hd : Vals dvs ds) (hx : Passes CX X E) (hsz : ps.length ≤ 100) (hg : Gl X x) (hm : X.mg x = some (.ref C))
    (hdb : (x == ("__debug__" : Str)) = false := by decide) : PE X (.Call (.Name x p) [] [] pos) (tMkV C sp dvs E tNil) := by
  refine ⟨fun pins s σ H Q I h => ?_⟩
  refine wpAny_Call_Name_kw (ld_glob I hg hm ?_ hdb)
  exact PySem.W.callWith_K0 I.kIn T.kC (run_mkV (us := []) (vs := []) T iC tI F1 hr hb hd hx hsz I .nil h)
/-- an own error at a, with its fields -/
def ErrAt (H : Hp) (a C : Addr) (fs : List (Str × V)) : Prop := ∃ d, H a = some (exo a C (some d)) ∧ H d = some (exd d fs)
theorem errInst {pins : List (Addr × Obj)} {s : Shared} {σ : L2.St} {H : Hp} {a : Addr} {fs : List (Str × V)} (I : Inv X pins σ H s) (h : ErrAt H a C fs) :
    ∃ (oe : Obj) (od : Obj) (mA : Str → Option Value), PySem.W.InstAt s.heap a oe C (some od) ∧ (∀ f, RelO (fs.lookup f) (mA f)) ∧ ∀ n, PySem.W.lookIn n od = some (mA n) := by
  obtain ⟨d, e1, e2⟩ := h
  obtain ⟨t1, ho⟩ := exo_at I.hok e1
  obtain ⟨mA, hns, rel⟩ := exd_at I.hok e2
  obtain ⟨od, hd, hl⟩ := lookIn_ns hns
  exact ⟨_, od, mA, ⟨ho, rfl, rfl, hd⟩, rel, hl⟩
/-- e.f -/
def tVf (K : PySem.W.Frag) (n : Str) (te : TE) : TE := fun σ H Q => te σ H fun x H1 => ∃ (a C : Addr) (fs : List (Str × V)) (v : V), x = .ref a ∧ ErrAt H1 a C fs ∧ XfC K C ∧ PySem.W.findIn K (.ref C) n = some none ∧ fs.lookup n = some v ∧ Q v H1
theorem pe_vf (he : PE X e te) (hb : attributeBase e n X.env (eval e X.env) = eval e X.env := by rfl) : PE X (.Attribute e n pos) (tVf X.K n te) := by
  refine ⟨fun pins s σ H Q I h => ?_⟩
  refine attr_of hb (thn (he.run pins s σ H _ I h) fun u s1 hh => ?_)
  obtain ⟨x, H1, I1, rx, a, D, fs, v, ex, er, T, hno, l, q⟩ := hh
  subst ex
  obtain rfl : u = Value.ref a := rx
  obtain ⟨oe, od, mA, J, hr, hl⟩ := errInst I1 er
  obtain ⟨u, hu, ru⟩ := RelO.some_of (v := v) (o := mA n) (by rw [← l]; exact hr n)
  exact HandSPX.exc_get I1.kIn J T.ga T.gg T.exC (PySem.W.findObj_own T.hdC hno rfl (by rw [hl, hu])) (handed_of ru) ⟨v, H1, I1.tok _, ru, q⟩
/-- isinstance(x, c), x such an error -/
def rIsV (K : PySem.W.Frag) : List V → Hp → VK → Prop := fun xs H Q => ∃ (a D : Addr) (fs : List (Str × V)) (c : V) (cv : Value) (b : Bool), xs = [.ref a, c] ∧ ErrAt H a D fs ∧ ExcC K D ∧ ClsV c cv ∧ PySem.W.kitOne K (.ref D) cv = some b ∧ Q (.bl b) H
theorem call_isV : CallR X (.builtin "isinstance") (rIsV X.K) := by
  rintro pins s σ H xs us Q I r ⟨a, D, fs, c, cv, b, rfl, er, C, hc, e, q⟩
  cases r with
  | cons rx rr => cases rr with
    | cons rt rr =>
      cases rr
      cases rx
      have ec := hc.eq rt
      subst ec
      obtain ⟨oe, od, mA, J, _, _⟩ := errInst I er
      have hcl : (PySem.W.clsIn X.K D).isSome = true := by
        obtain ⟨cd, h1, _⟩ := PySem.W.any_some C.hd
        rw [h1]; rfl
      exact PySem.W.kia_one (PySem.W.kitx_exc hcl C.hg C.hk C.hs C.ha C.hn C.ht C.hm) I.kIn J e (fun z => Value.noConfusion z) fun tk => ⟨.bl b, H, I.kept (t' := tk) fun _ _ z => z, rfl, q⟩
end
end OQ

/-! ### own errors: what is known of their classes -/
namespace OQ
open PySem L2 PySem.Spec PyProof.Rows
structure ErC (K : PySem.W.Frag) (W fI C : Addr) : Prop where
  oex : OexC K C
  ini : PySem.W.findIn K (.ref C) "__init__" = some (some (.ref fI))
  va : PySem.W.findIn K (.ref C) "value" = some none
  xf : XfC K C
  exi : ExcC K C
  mro : ∃ cd, PySem.W.clsIn K C = some cd ∧ cd.mro = [.ref C, .ref W, .type "ValueError", .type "Exception", .type "BaseException", .type "object"]
theorem kit_er {K : PySem.W.Frag} {W f g C D : Addr} (a : ErC K W f C) (b : ErC K W g D) (n : D ≠ W) : PySem.W.kitOne K (.ref C) (.ref D) = some (decide (C = D)) := by
  by_cases h : C = D
  · subst h
    unfold PySem.W.kitOne
    rw [if_pos (by simp), decide_eq_true rfl]
  · have hb : ((Value.ref C : Value) == Value.ref D) = false := Bool.eq_false_iff.mpr fun q => h (by cases beq_iff_eq.mp q; rfl)
    unfold PySem.W.kitOne
    rw [if_neg (by rw [hb]; decide), decide_eq_false h]
    obtain ⟨cd, e1, _⟩ := b.mro
    obtain ⟨cc, e2, e3⟩ := a.mro
    have t : ((PySem.W.clsIn K D).isSome && PySem.W.typeIn K (.ref D) == some (.type "type")) = true := by rw [e1, b.oex.tyC] <;> rfl
    show (if ((PySem.W.clsIn K D).isSome && PySem.W.typeIn K (.ref D) == some (.type "type")) = true then PySem.W.mroIn K C (.ref D) else none) = some false
    rw [if_pos t]
    unfold PySem.W.mroIn
    rw [e2]
    show (if cc.mro.isEmpty = true then none else some (cc.mro.contains (.ref D))) = some false
    rw [e3, if_neg (by simp)]
    congr 1
    refine Bool.eq_false_iff.mpr fun q => ?_
    have m := List.contains_iff_mem.mp q
    simp only [List.mem_cons, List.not_mem_nil, or_false] at m
    rcases m with m | m | m | m | m | m
    · cases m; exact h rfl
    · cases m; exact n rfl
    all_goals cases m
end OQ

/-! ### C.f(..), C an own class of the text: the def itself -/
namespace OQ
open PySem L2 PySem.Spec PyProof.Rows
/-- C.f read off the class: the def at g -/
structure CDef (K : PySem.W.Frag) (C g : Addr) (n : Str) : Prop where
  rd : PySem.W.readsIn K C (.type "type") = true
  ga : PySem.W.specialIn K (.ref C) "__getattribute__" = some (some (.builtin "type.__getattribute__"))
  val : PySem.W.findCls K (.ref C) (.type "type") n = some (.val (.ref g))
  kp : PySem.W.keepIn K (.ref g) = true
section
variable {X : Cx} {CX : CXT} {n : Str} {C g : Addr} {k : Nat} {fd : FuncData} {ps : List Str} {sp : Sp} {o e : Expr} {es : List Expr} {to : TE} {t : TA} {E : XK} {pos apos : Pos} {pl : Sem Bool}
def tCDef (C : Addr) (sp : Sp) (E : XK) (to : TE) (t : TA) : TE := fun σ H Q => to σ H fun x H1 => x = .ref C ∧ t σ H1 fun vs H2 => sp vs H2 Q E
theorem pe_cdef (ho : PE X o to) (c : CDef X.K C g n) (F : FnOk X.prog X.w X.K X.mg X.base CX k g fd ps sp) (hr : Room k X.A) (hb : Binds X.K fd ps []) (hx : Passes CX X E) (ha : PA X (e :: es) t)
    (ht : eval (.Call (.Attribute o n apos) (e :: es) [] pos) X.env = (do
      let ov ← eval o X.env
      standAt apos.atName
      let (f, first) ← holding [ov] (getMethod ov n pl)
      callWith pos f first (backTo pos (starEach (e :: es) X.env)) (backToKw pos (keywordEach [] X.env))) := by rfl)
    (he : starEach (e :: es) X.env = (false, eval e X.env) :: starEach es X.env := by rfl) (hpl : (backTo pos (starEach es X.env)).any (·.1) = false := by rfl) :
    PE X (.Call (.Attribute o n apos) (e :: es) [] pos) (tCDef C sp E to t) := by
  refine ⟨fun pins s σ H Q I h => ?_⟩
  refine PySem.W.methodCall_KW (pl := pl) (thn (ho.run pins s σ H _ I h) fun u s1 ⟨x, H1, I1, rx, ex, q⟩ => ?_) ht
  subst ex
  obtain rfl : u = Value.ref C := rx
  refine PySem.W.method_cls I1.kIn c.ga (PySem.W.cls_value I1.kIn c.rd c.val rfl ?_)
  show wpAny _ _ (callWith pos (Value.ref g) [] (backTo pos (starEach (e :: es) X.env)) []) _ _ _
  refine PySem.W.callWith_K (h₀ := X.base) I1.ok.mod.kin c.kp (thn (ha.run pos pins _ σ H1 _ (I1.tok _) q) fun us s2 ⟨vs, H2, I2, rv, q2⟩ => ⟨I2.kIn, ?_⟩) he hpl
  exact run_at (A := X.A) rfl hr F hb hx I2 rv q2
end
end OQ

/-! ### own errors: of which classes above -/
namespace OQ
open PySem L2 PySem.Spec PyProof.Rows
theorem mro_has {K : PySem.W.Frag} {W f C : Addr} (a : ErC K W f C) {B : Value} (h : B ∈ [Value.ref C, .ref W, .type "ValueError", .type "Exception", .type "BaseException", .type "object"]) : PySem.W.mroIn K C B = some true := by
  obtain ⟨cc, e1, e2⟩ := a.mro
  unfold PySem.W.mroIn
  rw [e1]
  show (if cc.mro.isEmpty = true then none else some (cc.mro.contains B)) = some true
  rw [e2, if_neg (by simp), List.contains_iff_mem.mpr h]
theorem kit_eV {K : PySem.W.Frag} {W f C : Addr} (a : ErC K W f C) : PySem.W.kitOne K (.ref C) (.type "ValueError") = some true := by
  unfold PySem.W.kitOne
  rw [if_neg (by simp)]
  show (if PySem.W.kitMeta "ValueError" = true then PySem.W.mroIn K C (.type "ValueError") else none) = some true
  rw [if_pos (by decide +kernel), mro_has a (by simp)]
theorem kit_eW {K : PySem.W.Frag} {W f C : Addr} (a : ErC K W f C) (hc : PySem.W.isClsIn K W = true) (ht : PySem.W.typeIn K (.ref W) = some (.type "type")) : PySem.W.kitOne K (.ref C) (.ref W) = some true := by
  by_cases n : (Value.ref C == Value.ref W) = true
  · unfold PySem.W.kitOne
    rw [if_pos n]
  · unfold PySem.W.kitOne
    rw [if_neg n]
    have h : ((PySem.W.clsIn K W).isSome && PySem.W.typeIn K (.ref W) == some (.type "type")) = true := by
      rw [show (PySem.W.clsIn K W).isSome = true from hc, ht]; rfl
    show (if ((PySem.W.clsIn K W).isSome && PySem.W.typeIn K (.ref W) == some (.type "type")) = true then PySem.W.mroIn K C (.ref W) else none) = some true
    rw [if_pos h, mro_has a (by simp)]
end OQ

/-! ### all that is asked of an own error's class, in one look -/
namespace OQ
open PySem L2 PySem.Spec PyProof.Rows
/-- the classes above such a one -/
def upVE (C W : Addr) : List Value := [.ref C, .ref W, .type "ValueError", .type "Exception", .type "BaseException", .type "object"]
def shpB (W C : Addr) : Option Obj → Bool
  | some ⟨.type "type", _, .cls k, z⟩ => k.hasDict && (!k.hasDel && (decide (k.mro = upVE C W) && decide (z.size = 6 ∧ z[4]? = some (some (.builtin "ValueError.__new__")))))
  | _ => false
theorem six {z : Array (Option Value)} {u : Option Value} (n : z.size = 6) (e : z[4]? = some u) : ∃ a b c d f, z = #[a, b, c, d, u, f] := by
  obtain ⟨l⟩ := z
  match l, n, e with
  | [a, b, c, d, v, f], _, e => exact ⟨a, b, c, d, f, by cases e; rfl⟩
def fndB (K : PySem.W.Frag) (C : Addr) (n : Str) (v : Option Value) : Bool := decide (PySem.W.findIn K (.ref C) n = some v)
def erB (K : PySem.W.Frag) (W f C : Addr) : Bool :=
  shpB W C (K.lookup C) && (fndB K C "__setattr__" (some (.builtin "object.__setattr__")) && (decide (PySem.W.subIn K (.ref C) (.type "BaseException") = some true) && (decide (PySem.W.typeIn K (.ref C) = some (.type "type")) &&
    (PySem.W.keepIn K (.ref C) && (fndB K C "__init__" (some (.ref f)) && (fndB K C "value" none && (fndB K C "__getattribute__" (some (.builtin "BaseException.__getattribute__")) && (fndB K C "__getattr__" none &&
      (PySem.W.hasDictIn K C && fndB K C "__class__" (some (.builtin "object.__class__")))))))))))
/-- f of all of them -/
def allB {α : Type} (f : α → Bool) : List α → Bool
  | [] => true
  | x :: r => f x && allB f r
theorem allB_at {α : Type} {f : α → Bool} : ∀ {l : List α}, allB f l = true → ∀ x ∈ l, f x = true
  | [], _, _, m => nomatch m
  | y :: r, h, x, m => by
    have q : (f y && allB f r) = true := h
    rw [Bool.and_eq_true] at q
    rcases List.mem_cons.mp m with e | m
    · rw [e]; exact q.1
    · exact allB_at q.2 x m
theorem two {a b : Bool} (h : (a && b) = true) : a = true ∧ b = true := by simpa using h
theorem erB_ok {K : PySem.W.Frag} {W f C : Addr} (hn : PySem.W.specialIn K (.builtin "object.__class__") "__get__" = some (some (.builtin "getset_descriptor.__get__"))) (ht : PySem.W.takesIn K (.builtin "object.__class__") = some true)
    (h : erB K W f C = true) : ErC K W f C := by
  obtain ⟨c1, h⟩ := two h
  obtain ⟨c2, h⟩ := two h
  obtain ⟨c3, h⟩ := two h
  obtain ⟨c4, h⟩ := two h
  obtain ⟨c5, h⟩ := two h
  obtain ⟨c6, h⟩ := two h
  obtain ⟨c7, h⟩ := two h
  obtain ⟨c8, h⟩ := two h
  obtain ⟨c9, h⟩ := two h
  obtain ⟨c10, c11⟩ := two h
  have F : ∀ {n : Str} {v : Option Value}, fndB K C n v = true → PySem.W.findIn K (.ref C) n = some v := fun q => of_decide_eq_true q
  have sub := of_decide_eq_true c3
  cases e : K.lookup C with
  | none => rw [e] at c1; cases c1
  | some o =>
    rw [e] at c1
    unfold shpB at c1
    split at c1
    · rename_i dd k z eo
      have eo' := Option.some.inj eo
      subst eo'
      obtain ⟨d1, c1⟩ := two c1
      obtain ⟨d2, c1⟩ := two c1
      obtain ⟨d3, d4⟩ := two c1
      obtain ⟨s1, s2⟩ := of_decide_eq_true d4
      obtain ⟨k0, k1, k2, k3, k5, rfl⟩ := six s1 s2
      have mr := of_decide_eq_true d3
      obtain ⟨nm, bs, mro, ns, qn, hdct, sn, sub2, ab, col, hdel⟩ := k
      simp only [Bool.not_eq_true'] at d1 d2 mr
      subst d1 d2 mr
      have cl : PySem.W.clsIn K C = some { name := nm, bases := bs, mro := upVE C W, ns := ns, qualname := qn, hasDict := true, slotNames := sn, subclasses := sub2, abstract := ab, collection := col, hasDel := false } := by
        unfold PySem.W.clsIn
        rw [e]
      have up : PySem.W.mroIn K C (.type "object") = some true := by
        unfold PySem.W.mroIn
        rw [cl]
        show (if (upVE C W).isEmpty = true then none else some ((upVE C W).contains (.type "object"))) = some true
        rw [if_neg (by simp [upVE]), List.contains_iff_mem.mpr (by simp [upVE])]
      exact ⟨⟨⟨nm, qn, ns, bs, [.ref W, .type "ValueError", .type "Exception", .type "BaseException", .type "object"], sn, sub2, ab, col, dd, k0, k1, k2, k3, k5, e, by rfl⟩, F c2, sub, of_decide_eq_true c4, c5⟩, F c6, F c7,
        ⟨F c8, F c9, sub, c10⟩, ⟨F c8, F c9, sub, c10, F c11, hn, ht, up⟩, ⟨_, cl, rfl⟩⟩
    · cases c1
end OQ
namespace OQ
open PySem L2 PySem.Spec PyProof.Rows
theorem ErC.cls {K : PySem.W.Frag} {W f C : Addr} (a : ErC K W f C) : PySem.W.isClsIn K C = true := by
  obtain ⟨cc, e, _⟩ := a.mro
  show (PySem.W.clsIn K C).isSome = true
  rw [e]; rfl
/-- what «except D» says of an error of C -/
theorem exm_is {K : PySem.W.Frag} {C D : Addr} {b : Bool} (h1 : PySem.W.subIn K (.ref D) (.type "BaseException") = some true) (h2 : PySem.W.isClsIn K D = true) (h3 : PySem.W.typeIn K (.ref D) = some (.type "type")) (h : PySem.W.mroIn K C (.ref D) = some b) :
    PySem.W.exmOne K (.ref C) (.ref D) = some b := by
  unfold PySem.W.exmOne
  rw [h1, if_pos (by rfl)]
  have q : ((PySem.W.clsIn K D).isSome && PySem.W.typeIn K (.ref D) == some (.type "type")) = true := by
    rw [show (PySem.W.clsIn K D).isSome = true from h2, h3]; rfl
  unfold PySem.W.kitCls
  exact (if_pos q).trans h
theorem mro_er {K : PySem.W.Frag} {W f C : Addr} (a : ErC K W f C) {D : Addr} (n : D ≠ W) : PySem.W.mroIn K C (.ref D) = some (decide (C = D)) := by
  by_cases h : C = D
  · subst h; rw [mro_has a (by simp), decide_eq_true rfl]
  · obtain ⟨cc, e1, e2⟩ := a.mro
    unfold PySem.W.mroIn
    rw [e1, decide_eq_false h]
    show (if cc.mro.isEmpty = true then none else some (cc.mro.contains (.ref D))) = some false
    rw [e2, if_neg (by simp)]
    refine congrArg some (Bool.eq_false_iff.mpr fun q => ?_)
    have m := List.contains_iff_mem.mp q
    simp only [List.mem_cons, Value.ref.injEq, reduceCtorEq, List.not_mem_nil, or_false] at m
    exact m.elim (fun z => h z.symm) n
theorem exm_er {K : PySem.W.Frag} {W f g C D : Addr} (a : ErC K W f C) (b : ErC K W g D) (n : D ≠ W) : PySem.W.exmOne K (.ref C) (.ref D) = some (decide (C = D)) := exm_is b.oex.exC b.cls b.oex.tyC (mro_er a n)
theorem exm_eW {K : PySem.W.Frag} {W f C : Addr} (a : ErC K W f C) (h1 : PySem.W.subIn K (.ref W) (.type "BaseException") = some true) (h2 : PySem.W.isClsIn K W = true) (h3 : PySem.W.typeIn K (.ref W) = some (.type "type")) :
    PySem.W.exmOne K (.ref C) (.ref W) = some true := exm_is h1 h2 h3 (mro_has a (by simp))
end OQ

/-! ### the head by one run: facts by names, and one more look -/
namespace OQ
open PySem L2 PySem.Spec PyProof.Rows
/-- what of the heap is looked at: what the module's names reach, and the host's own names -/
def frB (n : Nat) (g : Addr → Option Obj) : PySem.W.Frag := He.frG g (cStatics :: He.asD g n)
def hookB (n : Nat) (fa : List He.Fa) (fn : List He.DefD) (ex : PySem.W.Frag → Bool) : PySem.W.Hook where
  α := He.AlD × Bool
  obs := fun s => (He.obsD fa fn (frB n s.heap.get?), ex (frB n s.heap.get?))
  val := fun _ => (He.valD fn, true)
  says := fun _ h => ∃ K : PySem.W.Frag, K.In h ∧ He.SaysD fa fn K ∧ ex K = true
  of := fun _ _ e => ⟨_, He.frG_in, congrArg Prod.fst e, congrArg Prod.snd e⟩
  keeps := fun _ _ _ ⟨K, hK, c, x⟩ k => ⟨K, PySem.W.Frag.In.keeps hK k, c, x⟩
def obB (n : Nat) (fa : List He.Fa) (fn : List He.DefD) (ex : PySem.W.Frag → Bool) (s : PySem.W.SharedT) : He.AlD × Bool :=
  (He.obsD fa fn (frB n (HandSHeadRun.getT s)), ex (frB n (HandSHeadRun.getT s)))
theorem obB_eq (n : Nat) (fa : List He.Fa) (fn : List He.DefD) (ex : PySem.W.Frag → Bool) (s : PySem.W.SharedT) : obB n fa fn ex s = (hookB n fa fn ex).obs s.abs := by
  have e : HandSHeadRun.getT s = s.abs.heap.get? := funext (HandSHeadRun.getT_eq s)
  unfold obB
  rw [e]
  rfl
theorem fun_of {K : PySem.W.Frag} {x q : Str} {st : Stmt} {f : Addr} {fd : FuncData} (F : FunD K x q (defArgs st) (defBody st) (defScope st) [] [] f fd) : Fun K x q st f fd := by
  obtain ⟨oc, od, dV, kV, doc, pm, an, cd, ct, sl, e, look, code, df, _⟩ := F.ex
  rcases df with ⟨_, rfl⟩ | ⟨no, _⟩
  · exact ⟨⟨oc, od, kV, doc, pm, an, cd, ct, sl, e, look, code⟩, F.kp⟩
  · exact absurd rfl no
/-- v as an option's option -/
def isB (a : Option (Option Value)) (v : Option Value) : Bool := decide (a = some v)
theorem isB_ok {a : Option (Option Value)} {v : Option Value} (h : isB a v = true) : a = some v := of_decide_eq_true h
end OQ

/-! ### the head in chunks: the run of the top from one written state to the next -/
namespace HG
open PySem PySem.W PySem.Calls PyProof.Rows HandSHeadRun
noncomputable def okQ : Nat → Option Value → Thread → Bool := PySem.W.Fast.tw6613529449190102663
theorem okQ_eq : @stepOk = okQ := PySem.W.Fast.te6613529449190102663
noncomputable def execsQ : List Stmt → Env → Sem Flow := PySem.W.Fast.tw12563942051412417395
theorem execsQ_eq : @execs = execsQ := PySem.W.Fast.te12563942051412417395
noncomputable def blockQ : List Stmt → Env → Sem Unit := PySem.W.Fast.tw1066825118222455980
theorem blockQ_eq : @blockStart = blockQ := PySem.W.Fast.te1066825118222455980
section
variable (st : SharedT → Thread → Option (SharedT × Thread)) (ok : Thread → Bool)
/-- to the end of a row, at the top's own depth -/
def goE : Nat → SharedT → Thread → Option (Flow × SharedT × Code × Pos)
  | 0, _, _ => none
  | m + 1, s, t => match endAt 1 t with
    | some f => some (f, s, t.code, t.pos)
    | none => match ok t with
      | false => none
      | true => match st s t with
        | some (s', t') => frS s' fun s' => goE m s' t'
        | none => none
/-- just so many steps -/
def goT : Nat → SharedT → Thread → Option (SharedT × Thread)
  | 0, s, t => some (s, t)
  | m + 1, s, t => match through t with
    | true => none
    | false => match ok t with
      | false => none
      | true => match st s t with
        | some (s', t') => frS s' fun s' => goT m s' t'
        | none => none
end
section
variable {tb : String → Option Builtin} {p : Program} {w : World} {n0 : Nat} {ann : Option Value}
theorem goE_ok : ∀ {m : Nat} {s s' : SharedT} {t : Thread} {f : Flow} {c : Code} {q : Pos}, goE (stepT (denote tb) p w) (stepOk n0 ann) m s t = some (f, s', c, q) → segRun tb p w n0 ann 1 m s.abs t = some (f, s'.abs, c, q)
  | 0, _, _, _, _, _, _, h => by cases h
  | m + 1, s, s', t, f, c, q, h => by
    have h1 : (match endAt 1 t with
      | some f => some (f, s, t.code, t.pos)
      | none => match stepOk n0 ann t with
        | false => none
        | true => match stepT (denote tb) p w s t with
          | some (s', t') => frS s' fun s' => goE (stepT (denote tb) p w) (stepOk n0 ann) m s' t'
          | none => none) = some (f, s', c, q) := h
    unfold segRun
    cases he : endAt 1 t with
    | some g =>
      rw [he] at h1
      cases h1
      rfl
    | none =>
      rw [he] at h1
      cases hk : stepOk n0 ann t with
      | false =>
        rw [hk] at h1
        cases h1
      | true =>
        rw [hk] at h1
        cases hs : stepT (denote tb) p w s t with
        | none =>
          rw [hs] at h1
          cases h1
        | some r =>
          obtain ⟨s2, t2⟩ := r
          rw [hs] at h1
          have h3 : (frS s2 fun s' => goE (stepT (denote tb) p w) (stepOk n0 ann) m s' t2) = some (f, s', c, q) := h1
          rw [frS_eq] at h3
          have z := goE_ok h3
          show (match step (denote tb) p w s.abs t with
            | .go s' t' => segRun tb p w n0 ann 1 m s' t'
            | .halt _ _ => none) = some (f, s'.abs, c, q)
          rw [stepT_spec hs]
          exact z
theorem goT_ok : ∀ {m : Nat} {s s' : SharedT} {t t' : Thread}, goT (stepT (denote tb) p w) (stepOk n0 ann) m s t = some (s', t') → topGo tb p w n0 ann m s.abs t = some (s'.abs, t')
  | 0, _, _, _, _, h => by
    cases h
    rfl
  | m + 1, s, s', t, t', h => by
    have h1 : (match through t with
      | true => none
      | false => match stepOk n0 ann t with
        | false => none
        | true => match stepT (denote tb) p w s t with
          | some (s', t') => frS s' fun s' => goT (stepT (denote tb) p w) (stepOk n0 ann) m s' t'
          | none => none) = some (s', t') := h
    unfold topGo
    cases he : through t with
    | true =>
      rw [he] at h1
      cases h1
    | false =>
      rw [he] at h1
      cases hk : stepOk n0 ann t with
      | false =>
        rw [hk] at h1
        cases h1
      | true =>
        rw [hk] at h1
        cases hs : stepT (denote tb) p w s t with
        | none =>
          rw [hs] at h1
          cases h1
        | some r =>
          obtain ⟨s2, t2⟩ := r
          rw [hs] at h1
          have h3 : (frS s2 fun s' => goT (stepT (denote tb) p w) (stepOk n0 ann) m s' t2) = some (s', t') := h1
          rw [frS_eq] at h3
          have z := goT_ok h3
          show (match step (denote tb) p w s.abs t with
            | .go s' t' => topGo tb p w n0 ann m s' t'
            | .halt _ _ => none) = some (s'.abs, t')
          rw [stepT_spec hs]
          exact z
end
/-- the twins in their places -/
noncomputable abbrev stQ (p : Program) (w : World) := stepQ (denQ tabQ) p w
theorem goE_q {p : Program} {w : World} {n0 : Nat} {ann : Option Value} {m : Nat} {s s' : SharedT} {l : List Stmt} {env : Env} {c c' : Code} {q q' : Pos} {B : List Frame} {f : Flow} (h : goE (stQ p w) (okQ n0 ann) m s ⟨(execsQ l env).wrap doneF deadEnd id id, c, q, B⟩ = some (f, s', c', q')) :
    segRun treeTable p w n0 ann 1 m s.abs (piecesOf l env c q B) = some (f, s'.abs, c', q') := by
  have e : stQ p w = stepT (denote treeTable) p w := by unfold stQ; rw [← stepQ_eq, ← denQ_eq, ← tabQ_eq]
  rw [e, ← okQ_eq, ← execsQ_eq] at h
  exact goE_ok h
theorem goB_q {p : Program} {w : World} {n0 : Nat} {ann : Option Value} {m : Nat} {s s' : SharedT} {l : List Stmt} {env : Env} {c c' : Code} {q q' : Pos} {B : List Frame} {f : Flow} (h : goE (stQ p w) (okQ n0 ann) m s ⟨(blockQ l env).wrap (fun _ => doneF .next) deadEnd id id, c, q, B⟩ = some (f, s', c', q')) :
    segRun treeTable p w n0 ann 1 m s.abs (blockOf l env c q B) = some (f, s'.abs, c', q') := by
  have e : stQ p w = stepT (denote treeTable) p w := by unfold stQ; rw [← stepQ_eq, ← denQ_eq, ← tabQ_eq]
  rw [e, ← okQ_eq, ← blockQ_eq] at h
  exact goE_ok h
theorem goT_q {p : Program} {w : World} {n0 : Nat} {ann : Option Value} {m : Nat} {s s' : SharedT} {t : Thread} {b : Code} {c : Code} {q : Pos} {B : List Frame} (h : goT (stQ p w) (okQ n0 ann) m s t = some (s', ⟨denQ tabQ b, c, q, B⟩)) :
    topGo treeTable p w n0 ann m s.abs t = some (s'.abs, ⟨denote treeTable b, c, q, B⟩) := by
  have e : stQ p w = stepT (denote treeTable) p w := by unfold stQ; rw [← stepQ_eq, ← denQ_eq, ← tabQ_eq]
  rw [e, ← okQ_eq, ← denQ_eq, ← tabQ_eq] at h
  exact goT_ok h
theorem goF_q {p : Program} {w : World} {n0 : Nat} {ann : Option Value} {m : Nat} {s s' : SharedT} {t : Thread} (h : goF (stQ p w) n0 ann m s t = some s') : topRun treeTable p w n0 ann m s.abs t = some s'.abs := by
  have e : stQ p w = stepT (denote treeTable) p w := by unfold stQ; rw [← stepQ_eq, ← denQ_eq, ← tabQ_eq]
  rw [e] at h
  exact goF_ok h
/-- the boot and the imports -/
def openF (st : Program → SharedT → Thread → Option (SharedT × Thread)) (fence : Program → Shared → Option Shared) (M : Nat) (p : Program) : Option Shared := match impF (st (opening p)) M (startT (opening p)) (start (opening p)).2 with
  | some s => fence p s.abs
  | none => none
theorem openF_q {M : Nat} {p : Program} {w : World} {s0 : Shared} (h : openF (fun q => stQ q w) fenceQ M p = some s0) : fencedOpening treeTable p w M = some s0 := by
  have e : (fun q => stQ q w) = (fun q => stepT (denote treeTable) q w) := by unfold stQ; rw [← stepQ_eq, ← denQ_eq, ← tabQ_eq]
  rw [e, ← fenceQ_eq] at h
  unfold openF at h
  cases e1 : impF (stepT (denote treeTable) (opening p) w) M (startT (opening p)) (start (opening p)).2 with
  | none =>
    rw [e1] at h
    cases h
  | some s =>
    rw [e1] at h
    have h1 : fenceModules? p s.abs = some s0 := h
    have a1 := impF_ok e1
    rw [startT_eq] at a1
    unfold fencedOpening
    rw [a1]
    exact h1
theorem openB_q {M : Nat} {p : Program} {w : World} {x0 : SharedT} (h : (openF (fun q => stQ q w) fenceQ M p).bind treeOf = some x0) : fencedOpening treeTable p w M = some x0.abs := by
  obtain ⟨s, e, e2⟩ := Option.bind_eq_some_iff.mp h
  rw [(treeOf_eq e2).1]
  exact openF_q e
theorem left_run {p q : Program} {loose : List Str} {Xt : Shared → Bool} {α : Type} {Yf : Shared → α} {Ya : World → α} {N M n0 : Nat} {ann : Option Value} {s0 s1 : World → Shared}
    (hb : ∀ w, fencedOpening treeTable p w N = some (s0 w))
    (hz : ∀ w, ((s0 w).heap.isNs mainGlobals && (s0 w).gens.size == 0, (s0 w).heap.objs.size, (s0 w).heap.nsMap mainGlobals "__annotations__") = (true, n0, ann))
    (hr : ∀ w, topRun treeTable p w n0 ann M (s0 w) (topStub p) = some (s1 w)) (le : Nat.ble M N = true)
    (hl : ∀ w, looksF p (s0 w).heap (s1 w) = true) (hs : ∀ w, openSeen q loose (importedModules p.main.body) Xt true (s1 w) = openGood q loose) (hy : ∀ w, Yf (s1 w) = Ya w) :
    LeftO p q loose Xt Yf Ya N true := fun w => by
  obtain ⟨z1, z2, z3⟩ : _ ∧ _ ∧ _ := by simpa only [Prod.mk.injEq] using hz w
  have r := topRun_mono (N - M) _ _ _ _ (hr w)
  rw [show M + (N - M) = N by have := Nat.le_of_ble_eq_true le; omega] at r
  have l1 : (staticsOk (importedModules p.main.body) (s0 w).heap (s1 w).heap && namesBound p (s1 w).heap && gensDone (s1 w) && laidKept (s0 w).heap (s1 w).heap) = true := hl w
  have t : topFrom treeTable p w N (s0 w) = some (s1 w) := by
    unfold topFrom
    rw [z1]
    show (topRun treeTable p w (s0 w).heap.objs.size ((s0 w).heap.nsMap mainGlobals "__annotations__") N (s0 w) (topStub p)).bind _ = _
    rw [z2, z3, r]
    show (match staticsOk (importedModules p.main.body) (s0 w).heap (s1 w).heap && namesBound p (s1 w).heap && gensDone (s1 w) && laidKept (s0 w).heap (s1 w).heap with | true => some (s1 w) | false => none) = _
    rw [l1]
  unfold openEnds
  rw [hb w]
  show (topFrom treeTable p w N _).map _ = _
  rw [t]
  exact congrArg some (Prod.ext (hs w) (hy w))
theorem head_run {r : OpenRow} {q : Program} {H : Hook} {ob : SharedT → H.α} {N M n0 : Nat} {ann : Option Value} {x0 x1 : World → SharedT} {loose : List PySem.Str} {d : DefRec} {kwd : List (PySem.Str × PySem.Expr)} (ho : ∀ s : SharedT, ob s = H.obs s.abs)
    (hb : ∀ w, (openF (fun q => stQ q w) fenceQ N r.prog).bind treeOf = some (x0 w))
    (hz : ∀ w, ((x0 w).abs.heap.isNs mainGlobals && (x0 w).abs.gens.size == 0, (x0 w).abs.heap.objs.size, (x0 w).abs.heap.nsMap mainGlobals "__annotations__") = (true, n0, ann))
    (hr : ∀ w, topRun treeTable r.prog w n0 ann M (x0 w).abs (topStub r.prog) = some (x1 w).abs) (le : Nat.ble M N = true)
    (hl : ∀ w, looksF r.prog (x0 w).abs.heap (x1 w).abs = true) (hs : ∀ w, seenQ q loose (importedModules r.prog.main.body) (fun s => xlAt q [] s && recOk r.toRowW.records s) (x1 w).abs = openGood q loose) (hy : ∀ w, ob (x1 w) = H.val w)
    (hdef : defOf q r.name = some (d, kwd)) (hp : r.prog.theDef r.name = some (d.params, d.body, d.scope)) (hk : kwWritten? d.params.kwonlyargs d.params.kw_defaults = some kwd)
    (hwr : (!r.writes || r.records.isEmpty) = true) (k1 : r.wellSaid = true) (ok : (chainsOk q && opensWell r.prog && (frees r.toRowW && r.within.isEmpty)) = true) (hbr : r.prog.bare) (hw : r.toRowW.promised)
    (call : WalkO q loose (XL q []) H.says r.toRowW d kwd fun f vs => PySem.call f vs) : r.Holds := by
  have left : LeftO r.prog q loose (fun s => xlAt q [] s && recOk r.toRowW.records s) H.obs H.val N true :=
    left_run (fun w => openB_q (hb w)) hz hr le hl (fun w => by rw [seenQ_eq]; exact hs w) (fun w => by rw [← ho]; exact hy w)
  exact holds_open (r := r) (q := q) (loose := loose) (XP := XL q []) (YP := H.says) (d := d) (kwd := kwd) left H.of H.keeps (fun s z => xl_of s (Bool.and_eq_true_iff.mp z).1) XL.keeps hdef hp hk (fun s z => recFacts_of (Bool.and_eq_true_iff.mp z).2) hwr k1 ok hbr hw call
end HG

open RD in
local macro_rules | `(tactic| walk_at "rd1") => `(tactic| with_reducible first
  | refine d_seq ?_ | refine d_asg ?_ | refine d_op ?_ | refine d_c ?_ | refine d_gname ?_ | refine d_ifS ?_ | refine d_test ?_ | refine d_bl ?_ | refine d_ret ?_ | refine d_next ?_ | refine d_drop ?_
  | refine d_and ?_ | refine d_or ?_ | refine d_not ?_ | refine d_andV ?_ | refine d_orV ?_ | refine d_notV ?_ | refine d_if ?_ | refine d_tB ?_
  | refine d_rI0 ?_ | refine d_rU ?_ | refine d_eqI ?_ | refine d_neI ?_ | refine d_eqS ?_ | refine d_neS ?_ | refine d_eqB ?_ | refine d_isN ?_ | refine d_notN ?_ | refine d_intB ?_ | refine d_un ?_ | refine d_cb ?_ | refine d_cons ?_ | refine d_nil ?_ | refine d_lst ?_ | refine d_tup ?_ | refine d_call ?_
  | refine d_iList ?_ | refine d_rng1 ?_ | refine d_lc ?_ | refine d_yes ?_ | refine d_iteT ?_ | refine d_iteF ?_ | refine d_sl ?_ | refine d_noPart ?_ | refine d_part ?_ | refine d_exI ?_ | refine d_fld ?_ | refine d_iteNF ?_ | refine d_iteNT ?_ | refine d_gcd ?_ | refine d_sfld ?_ | refine d_for ?_ | refine OQ.d_makeS ?_ | refine OQ.d_make ?_ | refine OQ.d_methS ?_ | refine OQ.d_meth ?_ | refine d_gsub ?_ | refine d_par ?_ | refine d_int ?_ | refine d_abs ?_)
local macro_rules | `(tactic| walk_at "rdH") => `(tactic| first | assumption | exact L2.upd_same | (simp only [L2.upd_same, L2.upd_ne, ne_eq, not_false_eq_true, *]; done))
local macro_rules | `(tactic| walk_at "rdC") => `(tactic| first | assumption | (refine Or.inr ⟨?_, ?_⟩ <;> first | decide | omega) | (refine Or.inl ⟨?_, ?_⟩ <;> first | decide | omega) | (show (0 : Int) < _; first | assumption | decide | omega) | exact ⟨by decide, by decide +kernel⟩ | exact ⟨by decide, by decide, by decide +kernel⟩ | exact ⟨by assumption, by assumption⟩)
local macro_rules | `(tactic| walk_at "rd2") => `(tactic| first
  | refine RD.d_var rfl ?_
  | ((with_reducible (refine' RD.d_ixL ?hs ?e ?k)); (case hs => exact L2.SqL.of (by walk_at "rdH")); (case e => rfl))
  | ((with_reducible (refine' RD.d_ixT ?hs ?e ?k)); (case hs => exact L2.SqT.of (by walk_at "rdH")); (case e => rfl))
  | ((with_reducible (refine' RD.d_lenL ?hs ?k)); (case hs => exact L2.SqL.of (by walk_at "rdH")))
  | ((with_reducible (refine' RD.d_wipe ?e ?k)); (case e => rfl))
  | ((with_reducible (refine' RD.d_refL ?hs ?k)); (case hs => exact L2.SqL.of (by walk_at "rdH")))
  | ((with_reducible (refine' RD.d_lenT ?hs ?k)); (case hs => exact L2.SqT.of (by walk_at "rdH")))
  | ((with_reducible (refine' RD.d_lenS ?hs ?k)); (case hs => first | assumption | omega))
  | ((with_reducible (refine' RD.d_rI ?c ?k)); (case c => walk_at "rdC"))
  | ((with_reducible (refine' RD.d_setL ?hs ?e ?k)); (case hs => walk_at "rdH"); (case e => rfl)))
local macro_rules | `(tactic| walk_at "rd") => `(tactic| repeat (first | walk_at "rd1" | walk_at "rd2"))

/-! ### words, watches, links, floods -/
namespace WW
abbrev Wd := List Nat
def piece (W : Wd) (i j : Nat) : Wd := (W.drop i).take (j - i)
/-- the watch w stands at spot l of W -/
def Hit (W : Wd) (l : Nat) (w : Wd) : Prop := piece W l (l + w.length) = w
def Link (ws : List Wd) (W : Wd) (i j : Nat) : Prop := ∃ w ∈ ws, (Hit W i w ∧ j = i + w.length) ∨ (Hit W j w ∧ i = j + w.length)
instance {W : Wd} {l : Nat} {w : Wd} : Decidable (Hit W l w) := inferInstanceAs (Decidable (_ = _))
theorem Link.symm {ws : List Wd} {W : Wd} {i j : Nat} (h : Link ws W i j) : Link ws W j i := by
  obtain ⟨w, m, h⟩ := h
  exact ⟨w, m, h.symm⟩
theorem piece_length (W : Wd) (i j : Nat) : (piece W i j).length = min (j - i) (W.length - i) := by simp [piece]
theorem Hit.bound {W : Wd} {l : Nat} {w : Wd} (h : Hit W l w) (n : w ≠ []) : l + w.length ≤ W.length := by
  have e := congrArg List.length h
  rw [piece_length] at e
  have : 0 < w.length := List.length_pos_iff.mpr n
  omega
theorem Link.le {ws : List Wd} {W : Wd} {i j : Nat} (hw : ∀ w ∈ ws, w ≠ []) (h : Link ws W i j) : i ≤ W.length ∧ j ≤ W.length ∧ i ≠ j := by
  obtain ⟨w, m, ⟨h, e⟩ | ⟨h, e⟩⟩ := h
  · have := h.bound (hw w m)
    have : 0 < w.length := List.length_pos_iff.mpr (hw w m)
    omega
  · have := h.bound (hw w m)
    have : 0 < w.length := List.length_pos_iff.mpr (hw w m)
    omega
theorem Link.mono {ws vs : List Wd} {W : Wd} {i j : Nat} (s : ∀ w ∈ ws, w ∈ vs) (h : Link ws W i j) : Link vs W i j := by
  obtain ⟨w, m, h⟩ := h
  exact ⟨w, s w m, h⟩
/-- r steps lead from g to v -/
def Wk (E : Nat → Nat → Prop) (g : Nat) : Nat → Nat → Prop
  | 0, v => v = g
  | r + 1, v => ∃ u, Wk E g r u ∧ E u v
/-- r steps and no fewer -/
def Ds (E : Nat → Nat → Prop) (g r v : Nat) : Prop := Wk E g r v ∧ ∀ s, s < r → ¬ Wk E g s v
def Rc (E : Nat → Nat → Prop) (g v : Nat) : Prop := ∃ r, Wk E g r v
theorem Rc.ds {E : Nat → Nat → Prop} {g v : Nat} (h : Rc E g v) : ∃ r, Ds E g r v := by
  obtain ⟨r, h⟩ := h
  induction r using Nat.strongRecOn with
  | ind r ih =>
    by_cases c : ∃ s, s < r ∧ Wk E g s v
    · obtain ⟨s, hs, k⟩ := c
      exact ih s hs k
    · exact ⟨r, h, fun s hs k => c ⟨s, hs, k⟩⟩
theorem Ds.uniq {E : Nat → Nat → Prop} {g r s v : Nat} (h : Ds E g r v) (k : Ds E g s v) : r = s := by
  rcases Nat.lt_trichotomy r s with c | c | c
  · exact (k.2 r c h.1).elim
  · exact c
  · exact (h.2 s c k.1).elim
/-- a step further than r leads to r + 1, or to what is nearer -/
theorem Ds.step {E : Nat → Nat → Prop} {g r u v : Nat} (h : Ds E g r u) (e : E u v) : Ds E g (r + 1) v ∨ ∃ s, s ≤ r ∧ Ds E g s v := by
  obtain ⟨s, k⟩ := Rc.ds ⟨r + 1, u, h.1, e⟩
  by_cases c : s ≤ r
  · exact .inr ⟨s, c, k⟩
  · by_cases c2 : s = r + 1
    · subst c2; exact .inl k
    · exact (k.2 (r + 1) (by omega) ⟨u, h.1, e⟩).elim
theorem Ds.back {E : Nat → Nat → Prop} {g r v : Nat} (h : Ds E g (r + 1) v) : ∃ u, Ds E g r u ∧ E u v := by
  obtain ⟨⟨u, k, e⟩, n⟩ := h
  exact ⟨u, ⟨k, fun s hs z => n (s + 1) (by omega) ⟨u, z, e⟩⟩, e⟩
theorem Ds.down {E : Nat → Nat → Prop} {g : Nat} : ∀ {r v : Nat}, Ds E g r v → ∀ s, s ≤ r → ∃ u, Ds E g s u
  | r, v, h, s, hs => by
    by_cases c : s = r
    · subst c; exact ⟨v, h⟩
    · cases r with
      | zero => omega
      | succ r =>
        obtain ⟨u, k, _⟩ := h.back
        exact k.down s (by omega)
theorem Wk.trans {E : Nat → Nat → Prop} {g u : Nat} {r : Nat} (h : Wk E g r u) : ∀ {s v : Nat}, Wk E u s v → Wk E g (r + s) v
  | 0, v, k => by cases k; exact h
  | s + 1, v, ⟨x, k, e⟩ => ⟨x, h.trans k, e⟩
theorem Rc.trans {E : Nat → Nat → Prop} {g u v : Nat} (h : Rc E g u) (k : Rc E u v) : Rc E g v := by
  obtain ⟨r, h⟩ := h
  obtain ⟨s, k⟩ := k
  exact ⟨r + s, h.trans k⟩
theorem Rc.one {E : Nat → Nat → Prop} {u v : Nat} (e : E u v) : Rc E u v := ⟨1, u, rfl, e⟩
theorem Rc.refl {E : Nat → Nat → Prop} {u : Nat} : Rc E u u := ⟨0, rfl⟩
theorem Rc.symm {E : Nat → Nat → Prop} (sy : ∀ u v, E u v → E v u) {u v : Nat} (h : Rc E u v) : Rc E v u := by
  obtain ⟨r, h⟩ := h
  induction r generalizing v with
  | zero => cases h; exact .refl
  | succ r ih =>
    obtain ⟨x, k, e⟩ := h
    exact (Rc.one (sy _ _ e)).trans (ih k)
theorem Rc.mono {E F : Nat → Nat → Prop} (m : ∀ u v, E u v → F u v) {u v : Nat} (h : Rc E u v) : Rc F u v := by
  obtain ⟨r, h⟩ := h
  induction r generalizing v with
  | zero => cases h; exact .refl
  | succ r ih =>
    obtain ⟨x, k, e⟩ := h
    exact (ih k).trans (.one (m _ _ e))
/-- the book of ws tells W -/
def Told (ws : List Wd) (W : Wd) : Prop := Rc (Link ws W) 0 W.length
end WW
namespace WW
/-! the marks: spots with one mark are led to one another -/
structure Cls (m : Nat → Int) (n : Nat) (F : Nat → Nat → Prop) : Prop where
  snd : ∀ i j, i ≤ n → j ≤ n → m i = m j → Rc F i j
  cmp : ∀ i j, F i j → m i = m j
def addE (F : Nat → Nat → Prop) (a b : Nat) : Nat → Nat → Prop := fun u v => F u v ∨ (u = a ∧ v = b) ∨ (v = a ∧ u = b)
theorem Cls.same {m : Nat → Int} {n a b : Nat} {F : Nat → Nat → Prop} (h : Cls m n F) (e : m a = m b) : Cls m n (addE F a b) :=
  ⟨fun i j hi hj z => (h.snd i j hi hj z).mono fun _ _ => .inl, fun i j z => by
    rcases z with z | ⟨rfl, rfl⟩ | ⟨rfl, rfl⟩
    · exact h.cmp _ _ z
    · exact e
    · exact e.symm⟩
def relab (m : Nat → Int) (a b : Nat) : Nat → Int := fun i => if m i = m b then m a else m i
theorem Cls.join {m : Nat → Int} {n a b : Nat} {F : Nat → Nat → Prop} (h : Cls m n F) (ha : a ≤ n) (hb : b ≤ n) (e : m a ≠ m b) : Cls (relab m a b) n (addE F a b) := by
  have up : ∀ u v, Rc F u v → Rc (addE F a b) u v := fun u v k => k.mono fun _ _ => .inl
  have ab : Rc (addE F a b) a b := .one (.inr (.inl ⟨rfl, rfl⟩))
  have ba : Rc (addE F a b) b a := .one (.inr (.inr ⟨rfl, rfl⟩))
  refine ⟨fun i j hi hj z => ?_, fun i j z => ?_⟩
  · unfold relab at z
    split at z <;> split at z
    · rename_i c d
      exact up _ _ (h.snd i j hi hj (c.trans d.symm))
    · rename_i c d
      exact ((up _ _ (h.snd i b hi hb c)).trans ba).trans (up _ _ (h.snd a j ha hj z))
    · rename_i c d
      exact ((up _ _ (h.snd i a hi ha z)).trans ab).trans (up _ _ (h.snd b j hb hj d.symm))
    · exact up _ _ (h.snd i j hi hj z)
  · unfold relab
    rcases z with z | ⟨rfl, rfl⟩ | ⟨rfl, rfl⟩
    · rw [h.cmp _ _ z]
    · rw [if_neg e, if_pos rfl]
    · rw [if_neg e, if_pos rfl]
theorem Cls.told {m : Nat → Int} {n : Nat} {F : Nat → Nat → Prop} (h : Cls m n F) {i j : Nat} (hi : i ≤ n) (hj : j ≤ n) : m i = m j ↔ Rc F i j := by
  refine ⟨h.snd i j hi hj, fun k => ?_⟩
  obtain ⟨r, k⟩ := k
  clear hi hj
  induction r generalizing j with
  | zero => cases k; rfl
  | succ r ih =>
    obtain ⟨x, k, e⟩ := k
    exact (ih k).trans (h.cmp _ _ e)
/-! the links, as they are found -/
/-- those found ahead of the watch kk at spot low -/
def LkF (ws : List Wd) (W : Wd) (low kk : Nat) (i j : Nat) : Prop := ∃ l k w, ws[k]? = some w ∧ Hit W l w ∧ (l < low ∨ (l = low ∧ k < kk)) ∧ ((i = l ∧ j = l + w.length) ∨ (j = l ∧ i = l + w.length))
theorem LkF.zero {ws : List Wd} {W : Wd} {i j : Nat} : ¬ LkF ws W 0 0 i j := by
  rintro ⟨l, k, w, _, _, c, _⟩
  omega
theorem LkF.next {ws : List Wd} {W : Wd} {low i j : Nat} : LkF ws W low ws.length i j ↔ LkF ws W (low + 1) 0 i j := by
  refine ⟨fun ⟨l, k, w, h1, h2, c, h3⟩ => ⟨l, k, w, h1, h2, by omega, h3⟩, fun ⟨l, k, w, h1, h2, c, h3⟩ => ⟨l, k, w, h1, h2, ?_, h3⟩⟩
  have := (List.getElem?_eq_some_iff.mp h1).1
  omega
theorem LkF.all {ws : List Wd} {W : Wd} {i j : Nat} (n : ∀ w ∈ ws, w ≠ []) : LkF ws W W.length 0 i j ↔ Link ws W i j := by
  constructor
  · rintro ⟨l, k, w, h1, h2, c, h3⟩
    refine ⟨w, List.mem_of_getElem? h1, ?_⟩
    rcases h3 with ⟨rfl, e⟩ | ⟨rfl, e⟩
    · exact .inl ⟨h2, e⟩
    · exact .inr ⟨h2, e⟩
  · rintro ⟨w, m, h⟩
    obtain ⟨k, hk⟩ := List.getElem?_of_mem m
    have l0 : 0 < w.length := List.length_pos_iff.mpr (n w m)
    rcases h with ⟨h, e⟩ | ⟨h, e⟩
    · exact ⟨i, k, w, hk, h, by have := h.bound (n w m); omega, .inl ⟨rfl, e⟩⟩
    · exact ⟨j, k, w, hk, h, by have := h.bound (n w m); omega, .inr ⟨rfl, e⟩⟩
theorem LkF.miss {ws : List Wd} {W : Wd} {low kk : Nat} {w : Wd} (hk : ws[kk]? = some w) (h : ¬ Hit W low w) (i j : Nat) : LkF ws W low (kk + 1) i j ↔ LkF ws W low kk i j := by
  refine ⟨fun ⟨l, k, v, h1, h2, c, h3⟩ => ⟨l, k, v, h1, h2, ?_, h3⟩, fun ⟨l, k, v, h1, h2, c, h3⟩ => ⟨l, k, v, h1, h2, by omega, h3⟩⟩
  rcases c with c | ⟨rfl, c⟩
  · exact .inl c
  · by_cases e : k = kk
    · subst e
      rw [hk] at h1
      cases h1
      exact (h h2).elim
    · exact .inr ⟨rfl, by omega⟩
theorem LkF.hit {ws : List Wd} {W : Wd} {low kk : Nat} {w : Wd} (hk : ws[kk]? = some w) (h : Hit W low w) (i j : Nat) : LkF ws W low (kk + 1) i j ↔ addE (LkF ws W low kk) low (low + w.length) i j := by
  constructor
  · rintro ⟨l, k, v, h1, h2, c, h3⟩
    by_cases e : l = low ∧ k = kk
    · obtain ⟨rfl, rfl⟩ := e
      rw [hk] at h1
      cases h1
      rcases h3 with ⟨rfl, rfl⟩ | ⟨rfl, rfl⟩
      · exact .inr (.inl ⟨rfl, rfl⟩)
      · exact .inr (.inr ⟨rfl, rfl⟩)
    · exact .inl ⟨l, k, v, h1, h2, by omega, h3⟩
  · rintro (⟨l, k, v, h1, h2, c, h3⟩ | h3)
    · exact ⟨l, k, v, h1, h2, by omega, h3⟩
    · refine ⟨low, kk, w, hk, h, by omega, ?_⟩
      rcases h3 with ⟨rfl, rfl⟩ | ⟨rfl, rfl⟩
      · exact .inl ⟨rfl, rfl⟩
      · exact .inr ⟨rfl, rfl⟩
theorem LkF.new {ws : List Wd} {W : Wd} {low kk : Nat} {w : Wd} (nd : ws.Nodup) (n : ∀ w ∈ ws, w ≠ []) (hk : ws[kk]? = some w) (h : Hit W low w) : ¬ LkF ws W low kk low (low + w.length) ∧ ¬ LkF ws W low kk (low + w.length) low := by
  have l0 : 0 < w.length := List.length_pos_iff.mpr (n w (List.mem_of_getElem? hk))
  have key : ∀ l k v, ws[k]? = some v → Hit W l v → (l < low ∨ (l = low ∧ k < kk)) → l = low → v.length = w.length → False := by
    rintro l k v h1 h2 c rfl e
    have e2 : v = w := by
      unfold Hit at h2 h
      rw [← h2, ← h, e]
    subst e2
    have lt : k < kk := by omega
    have := (List.getElem?_inj (List.getElem?_eq_some_iff.mp h1).1 nd).mp (h1.trans hk.symm)
    omega
  refine ⟨fun ⟨l, k, v, h1, h2, c, h3⟩ => ?_, fun ⟨l, k, v, h1, h2, c, h3⟩ => ?_⟩ <;>
  · have l1 : 0 < v.length := List.length_pos_iff.mpr (n v (List.mem_of_getElem? h1))
    exact key l k v h1 h2 c (by omega) (by omega)
/-- rows of links -/
structure LkI (rows : Nat → List Nat) (F : Nat → Nat → Prop) : Prop where
  mem : ∀ i j, j ∈ rows i ↔ F i j
  nd : ∀ i, (rows i).Nodup
def push (rows : Nat → List Nat) (a b : Nat) : Nat → List Nat := fun i => if i = a then rows i ++ [b] else rows i
theorem LkI.add {rows : Nat → List Nat} {F : Nat → Nat → Prop} {a b : Nat} (h : LkI rows F) (ne : a ≠ b) (n1 : ¬ F a b) (n2 : ¬ F b a) : LkI (push (push rows a b) b a) (addE F a b) := by
  have e : ∀ i, push (push rows a b) b a i = if i = a then rows i ++ [b] else if i = b then rows i ++ [a] else rows i := by
    intro i
    unfold push
    by_cases c : i = a
    · subst c; rw [if_neg ne, if_pos rfl, if_pos rfl]
    · simp only [if_neg c]
  refine ⟨fun i j => ?_, fun i => ?_⟩
  · rw [e]
    split
    · rename_i c
      subst c
      rw [List.mem_append, h.mem, List.mem_singleton]
      unfold addE
      constructor
      · rintro (z | z)
        · exact .inl z
        · exact .inr (.inl ⟨rfl, z⟩)
      · rintro (z | ⟨_, z⟩ | ⟨_, z⟩)
        · exact .inl z
        · exact .inr z
        · exact (ne z).elim
    · rename_i c
      split
      · rename_i d
        subst d
        rw [List.mem_append, h.mem, List.mem_singleton]
        unfold addE
        constructor
        · rintro (z | z)
          · exact .inl z
          · exact .inr (.inr ⟨z, rfl⟩)
        · rintro (z | ⟨z, _⟩ | ⟨z, _⟩)
          · exact .inl z
          · exact (c z).elim
          · exact .inr z
      · rename_i d
        rw [h.mem]
        unfold addE
        constructor
        · exact .inl
        · rintro (z | ⟨z, _⟩ | ⟨_, z⟩)
          · exact z
          · exact (c z).elim
          · exact (d z).elim
  · rw [e]
    have app : ∀ (l : List Nat) (x : Nat), l.Nodup → x ∉ l → (l ++ [x]).Nodup := by
      intro l x nl nx
      rw [List.nodup_append]
      refine ⟨nl, by simp, fun y hy z hz q => ?_⟩
      rw [List.mem_singleton] at hz
      subst hz; subst q
      exact nx hy
    split
    · rename_i c
      subst c
      exact app _ _ (h.nd _) fun z => n1 ((h.mem _ _).mp z)
    · split
      · rename_i c d
        subst d
        exact app _ _ (h.nd _) fun z => n2 ((h.mem _ _).mp z)
      · exact h.nd _
theorem LkI.iff {rows : Nat → List Nat} {F G : Nat → Nat → Prop} (h : LkI rows F) (e : ∀ i j, G i j ↔ F i j) : LkI rows G := ⟨fun i j => (h.mem i j).trans (e i j).symm, h.nd⟩
theorem LkI.zero {ws : List Wd} {W : Wd} : LkI (fun _ => []) (LkF ws W 0 0) := ⟨fun i j => ⟨fun z => (nomatch z), fun z => (LkF.zero z).elim⟩, fun _ => List.nodup_nil⟩
end WW
namespace WW
theorem nodup_len : ∀ (n : Nat) (l : List Nat), l.Nodup → (∀ x ∈ l, x < n) → l.length ≤ n
  | 0, l, _, h => by
    cases l with
    | nil => exact Nat.le_refl _
    | cons a r => exact absurd (h a (List.mem_cons_self ..)) (Nat.not_lt_zero _)
  | n + 1, l, nd, h => by
    by_cases m : n ∈ l
    · have e := List.length_erase_of_mem m
      have ih := nodup_len n (l.erase n) (nd.erase n) (fun x hx => by
        have := h x (List.mem_of_mem_erase hx)
        have : x ≠ n := fun z => by subst z; exact (nd.not_mem_erase hx)
        omega)
      omega
    · exact Nat.le_succ_of_le (nodup_len n l nd fun x hx => by
        have := h x hx
        have : x ≠ n := fun z => m (z ▸ hx)
        omega)
theorem LkF.le {ws : List Wd} {W : Wd} {low kk i j : Nat} (n : ∀ w ∈ ws, w ≠ []) (h : LkF ws W low kk i j) : i ≤ W.length ∧ j ≤ W.length := by
  obtain ⟨l, k, w, h1, h2, c, h3⟩ := h
  have := h2.bound (n w (List.mem_of_getElem? h1))
  omega
theorem LkI.len {rows : Nat → List Nat} {F : Nat → Nat → Prop} {n : Nat} (h : LkI rows F) (b : ∀ i j, F i j → j ≤ n) (i : Nat) : (rows i).length ≤ n + 1 :=
  nodup_len _ _ (h.nd i) fun x m => Nat.lt_succ_of_le (b _ _ ((h.mem i x).mp m))
theorem addE.le {F : Nat → Nat → Prop} {a b n : Nat} (h : ∀ i j, F i j → j ≤ n) (ha : a ≤ n) (hb : b ≤ n) (i j : Nat) (k : addE F a b i j) : j ≤ n := by
  rcases k with k | ⟨_, rfl⟩ | ⟨rfl, _⟩
  · exact h _ _ k
  · exact hb
  · exact ha
/-- ints sorted, as numbers -/
theorem sorted_nats {r : List Nat} {ns : List Int} (p : ns.Perm (r.map fun (j : Nat) => (j : Int))) (s : ns.Pairwise (· ≤ ·)) (nd : r.Nodup) : ∃ q : List Nat, ns = q.map (fun (j : Nat) => (j : Int)) ∧ (∀ x, x ∈ q ↔ x ∈ r) ∧ q.Pairwise (· < ·) := by
  refine ⟨ns.map Int.toNat, ?_, fun x => ?_, ?_⟩
  · rw [List.map_map]
    have : ∀ z ∈ ns, ((fun (j : Nat) => (j : Int)) ∘ Int.toNat) z = z := fun z m => by
      obtain ⟨j, _, rfl⟩ := List.mem_map.mp (p.mem_iff.mp m)
      simp
    rw [List.map_congr_left this, List.map_id']
  · rw [List.mem_map]
    constructor
    · rintro ⟨z, m, rfl⟩
      obtain ⟨j, mj, rfl⟩ := List.mem_map.mp (p.mem_iff.mp m)
      simpa using mj
    · intro m
      exact ⟨(x : Int), p.mem_iff.mpr (List.mem_map.mpr ⟨x, m, rfl⟩), by simp⟩
  · have nd' : ns.Nodup := p.nodup_iff.mpr (List.Pairwise.map _ (fun a b (h : a ≠ b) => (fun z => h (by omega) : (a : Int) ≠ (b : Int))) nd)
    rw [List.pairwise_map]
    have both := s.and nd'
    refine both.imp_of_mem ?_
    rintro a b ma mb ⟨h1, h2⟩
    obtain ⟨x, _, rfl⟩ := List.mem_map.mp (p.mem_iff.mp ma)
    obtain ⟨y, _, rfl⟩ := List.mem_map.mp (p.mem_iff.mp mb)
    simp at *
    omega
end WW

/-! ### texts as lists of letters -/
namespace WW
open PySem L2
/-- the text of these letters -/
def S (l : Wd) : Str := ⟨l.toArray⟩
theorem S_len (l : Wd) : (S l).length = l.length := by show l.toArray.size = _; simp
theorem S_cps (l : Wd) : (S l).cps.toList = l := rfl
theorem S_of (z : Str) : z = S z.cps.toList := by cases z; rfl
theorem S_inj {l m : Wd} : S l = S m ↔ l = m := by
  constructor
  · intro h
    have := congrArg (fun z : Str => z.cps.toList) h
    exact this
  · exact congrArg S
theorem S_app (l m : Wd) : S l ++ S m = S (l ++ m) := by
  show Str.mk _ = Str.mk _
  simp [S]
theorem take_all {α : Type} (l : List α) {n m : Nat} (h : l.length ≤ n) (k : l.length ≤ m) : l.take n = l.take m := by
  rw [List.take_of_length_le h, List.take_of_length_le k]
theorem cut_nat {α : Type} (l : List α) (a b : Nat) : (l.drop (min a l.length)).take (min b l.length - min a l.length) = (l.drop a).take (b - a) := by
  rcases Nat.le_total a l.length with ha | ha
  · have e : min a l.length = a := by omega
    rw [e]
    rcases Nat.le_total b l.length with hb | hb
    · have e : min b l.length = b := by omega
      rw [e]
    · exact take_all _ (by rw [List.length_drop]; omega) (by rw [List.length_drop]; omega)
  · have e : min a l.length = l.length := by omega
    rw [e, List.drop_of_length_le (Nat.le_refl l.length), List.drop_of_length_le ha]
    simp
theorem S_cut (l : Wd) (a b : Nat) : cutS (S l) (some (a : Int)) (some (b : Int)) = S (piece l a b) := by
  unfold cutS piece
  rw [S_len, HT.sIx_nat, HT.sIx_nat, S_cps, cut_nat]
  rfl
theorem S_cutLo (l : Wd) (a : Nat) : cutS (S l) (some (a : Int)) none = S (l.drop a) := by
  have e : cutS (S l) (some (a : Int)) none = cutS (S l) (some (a : Int)) (some ((l.length : Nat) : Int)) := by
    unfold cutS
    rw [S_len, HT.sIx_nat, HT.sIx_nat, HT.sIx_none, Nat.min_self]
  rw [e, S_cut]
  show S _ = S _
  congr 1
  exact List.take_of_length_le (by rw [List.length_drop]; omega)
theorem S_cutHi (l : Wd) (b : Nat) : cutS (S l) none (some (b : Int)) = S (l.take b) := by
  have e : cutS (S l) none (some (b : Int)) = cutS (S l) (some ((0 : Nat) : Int)) (some (b : Int)) := by
    unfold cutS
    have z : ∀ n : Nat, HT.sIx n 0 (some ((0 : Nat) : Int)) = 0 := fun n => by rw [HT.sIx_nat, Nat.zero_min]
    rw [z, HT.sIx_none]
  rw [e, S_cut]
  rfl
/-- a row of texts -/
def Ss (ws : List Wd) : List V := ws.map fun w => V.str (S w)
theorem Ss_get {ws : List Wd} {i : Nat} {x : V} (h : (Ss ws)[i]? = some x) : ∃ w, ws[i]? = some w ∧ x = .str (S w) := by
  unfold Ss at h
  rw [List.getElem?_map] at h
  cases e : ws[i]? with
  | none => rw [e] at h; cases h
  | some w => rw [e] at h; cases h; exact ⟨w, rfl, rfl⟩
theorem Ss_len (ws : List Wd) : (Ss ws).length = ws.length := List.length_map ..
def Lt (c : Nat) : Prop := 97 ≤ c ∧ c ≤ 122
instance {c : Nat} : Decidable (Lt c) := inferInstanceAs (Decidable (_ ∧ _))
/-- all of its signs are letters -/
def Lw (l : Wd) : Prop := ∀ c ∈ l, Lt c
theorem Lw.piece {l : Wd} (h : Lw l) (a b : Nat) : Lw (piece l a b) := fun c m => h c (List.mem_of_mem_drop (List.mem_of_mem_take m))
theorem Lw.drop {l : Wd} (h : Lw l) (a : Nat) : Lw (l.drop a) := fun c m => h c (List.mem_of_mem_drop m)
theorem Lw.take {l : Wd} (h : Lw l) (a : Nat) : Lw (l.take a) := fun c m => h c (List.mem_of_mem_take m)
theorem Lw.app {l m : Wd} (h : Lw l) (k : Lw m) : Lw (l ++ m) := fun c z => (List.mem_append.mp z).elim (h c) (k c)
theorem Lw.nil : Lw [] := fun _ m => nomatch m
theorem Lw.one {c : Nat} (h : Lt c) : Lw [c] := fun x m => by rw [List.mem_singleton.mp m]; exact h
def alpha : Str := "abcdefghijklmnopqrstuvwxyz"
theorem alpha_S : alpha = S (List.range' 97 26) := by decide +kernel
theorem alpha_in (c : Nat) : decide (c ∈ alpha.cps.toList) = decide (Lt c) := by
  rw [alpha_S, S_cps]
  rw [decide_eq_decide]
  unfold Lt
  rw [List.mem_range'_1]
  omega
theorem alpha_at {i : Nat} (h : i < 26) : (List.range' 97 26)[i]? = some (97 + i) := by
  rw [List.getElem?_range' h]; simp
end WW
/-! ### readings of texts -/
namespace RD
open PySem L2
section
variable {σ : L2.St} {H : Hp} {Q : VK} {K : PySem.W.Frag} {l m : WW.Wd} {a b : Nat} {i j : Int}
def rAddS : R2 := fun x y H Q => ∃ i j, x = .str i ∧ y = .str j ∧ i.length + j.length ≤ sizeLine ∧ Q (.str (i ++ j)) H
theorem o_addS {X : Cx} : OpR X (binaryOp .Add) rAddS := op_add_str
theorem d_addS (n : l.length + m.length ≤ sizeLine) (h : Q (.str (WW.S (l ++ m))) H) : rAddS (.str (WW.S l)) (.str (WW.S m)) H Q :=
  ⟨_, _, rfl, rfl, by rw [WW.S_len, WW.S_len]; exact n, by rw [WW.S_app]; exact h⟩
def rSign : R2 := fun x y H Q => ∃ (c : Nat) (z : Str), x = .str ⟨#[c]⟩ ∧ y = .str z ∧ Q (.bl (decide (c ∈ z.cps.toList))) H
theorem o_sign {X : Cx} : OpR X (compareOp .In) rSign := op_in_sign
theorem d_alpha {c : Nat} (h : Q (.bl (decide (WW.Lt c))) H) : rSign (.str ⟨#[c]⟩) (.str "abcdefghijklmnopqrstuvwxyz") H Q :=
  ⟨c, _, rfl, rfl, by rw [show decide (c ∈ (("abcdefghijklmnopqrstuvwxyz" : Str)).cps.toList) = decide (WW.Lt c) from WW.alpha_in c]; exact h⟩
theorem d_cutS {i j : Int} (hi : i = a) (hj : j = b) (n : l.length ≤ sizeLine) (h : Q (.str (WW.S (WW.piece l a b))) H) : rSlS (.str (WW.S l)) (some i) (some j) H Q := by
  subst hi hj
  exact ⟨_, rfl, by rw [WW.S_len]; exact n, by rw [WW.S_cut]; exact h⟩
theorem d_cutSLo {i : Int} (hi : i = a) (n : l.length ≤ sizeLine) (h : Q (.str (WW.S (l.drop a))) H) : rSlS (.str (WW.S l)) (some i) none H Q := by
  subst hi
  exact ⟨_, rfl, by rw [WW.S_len]; exact n, by rw [WW.S_cutLo]; exact h⟩
theorem d_cutSHi {i : Int} (hi : i = b) (n : l.length ≤ sizeLine) (h : Q (.str (WW.S (l.take b))) H) : rSlS (.str (WW.S l)) none (some i) H Q := by
  subst hi
  exact ⟨_, rfl, by rw [WW.S_len]; exact n, by rw [WW.S_cutHi]; exact h⟩
theorem d_lenW (n : l.length ≤ sizeLine) (h : Q (.int l.length) H) : rLen K [.str (WW.S l)] H Q := ⟨_, _, rfl, ⟨by rw [WW.S_len]; exact n, rfl⟩, by rw [WW.S_len]; exact h⟩
theorem d_ixS {i : Int} {c : Nat} (hi : i = a) (n : l.length ≤ sizeLine) (e : l[a]? = some c) (h : Q (.str (WW.S [c])) H) : rIxS (.str (WW.S l)) (.int i) H Q := by
  subst hi
  exact ⟨_, _, c, rfl, rfl, by rw [WW.S_len]; exact n, by rw [WW.S_cps]; exact atI_nat e, h⟩
theorem d_eqW (h : Q (.bl (decide (l = m))) H) : rEq (.str (WW.S l)) (.str (WW.S m)) H Q := ⟨rfl, by
  have e : decide (V.str (WW.S l) = V.str (WW.S m)) = decide (l = m) := by rw [decide_eq_decide]; exact ⟨fun z => WW.S_inj.mp (V.str.inj z), fun z => by rw [z]⟩
  rw [e]; exact h⟩
theorem d_neW (h : Q (.bl (!decide (l = m))) H) : rNe (.str (WW.S l)) (.str (WW.S m)) H Q := ⟨rfl, by
  have e : decide (V.str (WW.S l) = V.str (WW.S m)) = decide (l = m) := by rw [decide_eq_decide]; exact ⟨fun z => WW.S_inj.mp (V.str.inj z), fun z => by rw [z]⟩
  rw [e]; exact h⟩
end
end RD

/-! ### enumerate over a tuple -/
namespace OQ
open PySem L2 PySem.Spec PyProof.Rows
theorem meets_enumV {v : Value} {o : Obj} {B : Heap → Prop} (b : Begins v o B) :
    Meets (Builtin.«enumerate.__new__» ⟨[.type "enumerate", v], []⟩) (fun _ R z => B z.heap ∧
      R (.ok (.ret (.ref (z.heap.push o).objs.size))) { z with heap := (z.heap.push o).push { cls := .type "enumerate", data := .fields #[.none, .bool false, .ref z.heap.objs.size, rawInt 0, .none, .none] } }) :=
  .of_wp fun P W A R z q => by
    obtain ⟨hp, g, d, tk, os⟩ := z; obtain ⟨b0, q⟩ := q
    have know := sub_enumerate
    have begin_ : ∀ {A' : Around} {E Q : Value → Shared → Prop}, Q (.ref hp.objs.size) ⟨hp.push o, g, d, tk, os⟩ → wpAny (model P W) A' (pyIter v) Q E ⟨hp, g, d, tk, os⟩ :=
      fun r => b.iter P W _ _ ⟨hp, g, d, tk, os⟩ _ b0 r
    wp_walk using begin_
    refine wpAny_stack_any fun _ => wpAny_pure ?_
    split
    · rename_i c _ _ _ _ _
      cases (c == Value.type "enumerate") <;> (wp_walk using begin_; exact ⟨_, rfl, q⟩)
    · (wp_walk using begin_; exact ⟨_, rfl, q⟩)
theorem call_enumV {P : Program} {W : World} {A : Around} {E Q : Value → Shared → Prop} {z : Shared} {v : Value} {o : Obj} {B : Heap → Prop} (b : Begins v o B) (b0 : B z.heap)
    (q : ∀ h', IsEnum h' (z.heap.objs.size + 1) z.heap.objs.size 0 .none → h'.get? z.heap.objs.size = some o → (∀ c u, z.heap.get? c = some u → h'.get? c = some u) → Q (.ref (z.heap.objs.size + 1)) { z with heap := h' }) :
    wpAny (model P W) A (call (.type "enumerate") [v]) Q E z := by
  refine callType_new F.called_enumerate (by decide) (F.typeCall_enumerate_1 _) (F.newCall_enumerate_1 _) (fun _ => F.args_object_init_2 _ _) F.entry_enumerate_new (meets_enumV b) ⟨b0, ?_⟩
  have n1 : (z.heap.push o).objs.size = z.heap.objs.size + 1 := Heap.size_push ..
  have e1 := Heap.get?_push_size (z.heap.push o) (o := { cls := .type "enumerate", data := .fields #[.none, .bool false, .ref z.heap.objs.size, rawInt 0, .none, .none] }) rfl
  rw [n1] at e1
  show _ ∧ _
  rw [n1]
  exact ⟨⟨_, e1, rfl⟩, q _ e1 (Heap.get?_push_of_some _ (Heap.get?_push_size _ b.free)) fun c u x => Heap.get?_push_of_some _ (Heap.get?_push_of_some _ x)⟩
/-- the tuple at a, each item in a new pair behind its number -/
def IteT (K : PySem.W.Frag) (a : Addr) : It where
  go i H := ∃ xs x, SqT K H a xs ∧ xs[i]? = some x
  yld i H v H' := ∃ T x, v = .ref T ∧ H T = none ∧ H' = upd H T (.tup [.int (i : Nat), x]) ∧ ∀ xs, SqT K H a xs → xs[i]? = some x
  stop i H := ∃ xs, SqT K H a xs ∧ xs.length ≤ i
theorem two_mem {b e it : Addr} (h : b ∈ [e, it]) : b = e ∨ b = it := by simpa using h
theorem turn_enumT {P : Program} {w : World} {K : PySem.W.Frag} {elts : List Expr} {kk : Nat} {tpos : Pos} (a e it : Addr) :
    Turn P w K (.Tuple elts kk tpos) (IteT K a) [e, it] e (fun i h => (∃ old, IsEnum h e it ((i : Nat) : Int) old) ∧ h.IsTupleIter it a i ∧ e ≠ it) where
  mem := List.mem_cons_self ..
  obj := fun i h st b hb => by
    obtain ⟨⟨old, x1⟩, ⟨o, x2, _, x3⟩, _⟩ := st
    rcases two_mem hb with rfl | rfl
    · exact ⟨_, x1, fun _ z => nomatch z⟩
    · exact ⟨o, x2, fun _ z => by rw [x3] at z; cases z⟩
  keep := fun i h h' st k => ⟨st.1.imp fun _ y => k e (List.mem_cons_self ..) _ y, st.2.1.at fun o y => k it (by simp) o y, st.2.2⟩
  item := by
    intro X hP hw hK hc i pins s σ H E I hf st hg
    subst hP hw hK
    obtain ⟨⟨old, x1⟩, x2, ne⟩ := st
    obtain ⟨xs, x, sq, hx⟩ := hg
    obtain ⟨its, rv, pt, _⟩ := I.tuple sq
    obtain ⟨u, hu, ru⟩ := rv.get hx
    have pt' : s.heap.IsTuple a its.toArray := pt
    have na : a ≠ it := fun z => by
      subst z
      obtain ⟨o1, y1, c1, _⟩ := x2
      obtain ⟨o2, y2, c2, _⟩ := pt'
      rw [y1] at y2
      cases y2
      rw [c1] at c2
      simp at c2
    have le : e < s.heap.objs.size := Heap.lt_size x1
    have li : it < s.heap.objs.size := let ⟨_, y, _⟩ := x2; Heap.lt_size y
    have la : a < s.heap.objs.size := let ⟨_, y, _⟩ := pt'; Heap.lt_size y
    have nea : e ≠ a := fun z => by
      subst z
      obtain ⟨o2, y2, c2, _⟩ := pt'
      have y1 : s.heap.get? e = _ := x1
      rw [y1] at y2
      cases y2
      simp at c2
    have lt : i < its.toArray.size := by
      have := rv.length
      have := (List.getElem?_eq_some_iff.mp hx).1
      rw [List.size_toArray]; omega
    refine wpAny_pyNext_enum_itemD (Draws.tuple (A := X.A.in1) (show X.A.in1.handled = none from I.ok.hd hc) it a na its.toArray) x1 ⟨x2, pt'⟩ lt ne (by intro z; rcases two_mem z with z | z; exact ne z; exact nea z) fun y h1 tk hy out st1 hT _ hk => ?_
    have ey : y = u := by
      have : its.toArray[i]? = some u := by simpa using hu
      rw [this] at hy
      exact (Option.some.inj hy).symm
    subst ey
    refine ⟨_, rfl, wpAny_letOwnedTupleGo_enum (s := { s with heap := h1, toks := tk + 1 }) out fun h2 x3 sb => ?_⟩
    have hT2 := (sb.2 _ (Nat.ne_of_gt le)).trans hT
    have new : ObjOk X.prog X.w (upd H s.heap.objs.size (.tup [.int (i : Nat), x])) h2 s.heap.objs.size (.tup [.int (i : Nat), x]) :=
      ⟨by show 2 ≤ sizeLine; decide, [.int i tk, y], .cons ⟨_, rfl⟩ (.cons ru .nil), ⟨_, hT2, rfl, _, rfl⟩⟩
    have I2 : Inv X pins σ (upd H s.heap.objs.size (.tup [.int (i : Nat), x])) { s with heap := h2, toks := tk + 1 } :=
      I.turnedNew (ch := [e, it]) (fun b o nb q => (sb.2 b (fun z => nb (by simp [z]))).trans (hk b o (fun z => nb (by simp [z])) (fun z => nb (by simp [z])) q)) hf (Nat.le_refl _) new
    refine ⟨.ref s.heap.objs.size, _, I2, rfl, ⟨_, x, rfl, I.hok.fresh (Nat.le_refl _), rfl, fun ys hy => by rw [I.tuple_inj hy sq]; exact hx⟩, ⟨⟨y, ?_⟩, st1.1.at fun o q => (sb.2 it (Ne.symm ne)).trans q, ne⟩, fun b hb => ?_⟩
    · rw [Int.natCast_succ]; exact x3
    · have lb : b < s.heap.objs.size := (two_mem hb).elim (fun z => z ▸ le) (fun z => z ▸ li)
      rw [upd_ne (Nat.ne_of_lt lb)]
      exact (hf b hb).1
  done := by
    intro X hP hw hK hc i pins s σ H E I hf st hg
    subst hP hw hK
    obtain ⟨⟨old, x1⟩, x2, ne⟩ := st
    obtain ⟨xs, sq, lx⟩ := hg
    obtain ⟨its, rv, pt, _⟩ := I.tuple sq
    obtain ⟨f0, f1, f2, f3, f4, f5⟩ := hf it (by simp)
    have pt' : s.heap.IsTuple a its.toArray := pt
    have len := rv.length
    have hT : s.TypeIs (.ref e) "enumerate" := ⟨_, x1, rfl⟩
    unfold pyNext
    refine wpAny_bind (wpAny_attempt (wpAny_callSpecial?_slot (name := Str.ofString "__next__") hT F.slot_enumerate_next
      (wpAny_call_entry F.slot_enumerate_next hT F.entry_enumerate_next ?_ (F.args_enumerate_next_1 _))))
    show wpAny _ _ (field (.ref e) 2 >>= _) _ _ _
    refine wpAny_bind (wpAny_field x1 rfl (x := .ref it) rfl ?_)
    refine wpAny_bind (wpAny_nextOf_tuple_end (I.ok.hd hc) x2 pt' (by simp; omega) fun h' x he' hx' => ?_)
    obtain ⟨o, ho, c⟩ := hx'
    exact wpAny_bind (wpAny_isInstance (T := "StopIteration") (b := true) ⟨o, ho, c⟩ isSubtype_stop (wpAny_pure ⟨rfl, I.turned (t' := s.toks) (fun b u nb q => he' b u nb q) f0 f1 f3 f4 f5⟩))
  self := fun A i s Q E st h => let ⟨⟨_, x1⟩, _⟩ := st; wpAny_pyIter_enum x1 h
def iEnumT (K : PySem.W.Frag) (ta : TA) : TI := fun σ H R => ta σ H fun vs H1 => ∃ a xs, vs = [.ref a] ∧ SqT K H1 a xs ∧ R (IteT K a) H1
theorem pi_enumT {X : Cx} {arg : Expr} {ta : TA} {p q tp : Pos} {elts : List Expr} {kk : Nat} (hg : Gl X "enumerate") (hm : X.mg "enumerate" = none) (ha : PA X [arg] ta) (hs : starEach [arg] X.env = [(false, eval arg X.env)] := by rfl) :
    PI X (.Tuple elts kk tp) (.Call (.Name "enumerate" p) [arg] [] q) (iEnumT X.K ta) := by
  refine ⟨fun pins s σ H R I asked => Call_ (ld_blt I hg hm boot_enumerate (callWith_type1 (thn (ha.run q pins s σ H _ I asked) fun us s1 ⟨vs, H1, I1, rel, a, xs, evs, sq, go⟩ => ?_) hs rfl))⟩
  subst evs
  cases rel with
  | cons one rest =>
    cases rest
    cases one
    obtain ⟨its, rv, pt, _⟩ := I1.tuple sq
    have pt' : s1.heap.IsTuple a its.toArray := pt
    refine call_enumV (begins_tuple a its.toArray) pt' fun h' x1 x2 hk => wpAny_pyIter_enum x1 ?_
    refine ⟨s1.heap.objs.size + 1, [s1.heap.objs.size + 1, s1.heap.objs.size], _, _, H1, rfl, I1.kept (t' := s1.toks) hk, turn_enumT a (s1.heap.objs.size + 1) s1.heap.objs.size, ⟨⟨.none, x1⟩, ⟨_, x2, rfl, rfl⟩, Nat.succ_ne_self _⟩, fun b hb => ?_, go⟩
    have lb : s1.heap.objs.size ≤ b := by
      rcases two_mem hb with z | z
      · exact z ▸ Nat.le_succ _
      · exact z ▸ Nat.le_refl _
    exact I1.fpOk lb (I1.hok.fresh lb)
/-- enumerate of a list or of a tuple -/
theorem walk_enumT {K : PySem.W.Frag} {a : Addr} {xs : List V} : Walk (IteT K a) xs.length (fun H => SqT K H a xs) (YPair (fun i => some (.int (i : Nat))) (fun i => xs[i]?)) where
  goes i _ hi q := ⟨xs, xs[i], q, List.getElem?_eq_getElem hi⟩
  stops _ q := ⟨xs, q, Nat.le_refl _⟩
  yields i H v H' _ q y := let ⟨T, x, h1, h2, h3, h4⟩ := y; ⟨T, .int (i : Nat), x, h1, h2, h3, rfl, h4 xs q⟩
end OQ

/-! ### rows: lists or tuples -/
namespace OQ
open PySem L2 PySem.Spec PyProof.Rows
def SeqAt (K : PySem.W.Frag) (H : Hp) (a : Addr) (xs : List V) : Prop := SqL K H a xs ∨ SqT K H a xs
theorem sqT_same {K : PySem.W.Frag} {H H' : Hp} {a : Addr} {xs : List V} (h : SqT K H a xs) (e : Same H H') : SqT K H' a xs :=
  h.imp (fun h => h.imp (e _ _) fun ⟨o, h⟩ => ⟨o, e _ _ h⟩) id
theorem SeqAt.same {K : PySem.W.Frag} {H H' : Hp} {a : Addr} {xs : List V} (h : SeqAt K H a xs) (e : Same H H') : SeqAt K H' a xs :=
  h.imp e.seq fun h => sqT_same h e
theorem SeqAt.len {K : PySem.W.Frag} {H : Hp} {a : Addr} {xs : List V} {Q : VK} (h : SeqAt K H a xs) (k : Q (.int xs.length) H) : RD.rLen K [.ref a] H Q :=
  h.elim (fun h => RD.d_lenL h k) fun h => RD.d_lenT h k
/-- the one way of walking or the other -/
def iOr (u w : TI) : TI := fun σ H R => u σ H R ∨ w σ H R
theorem pi_or {X : Cx} {tg e : Expr} {u w : TI} (h : PI X tg e u) (k : PI X tg e w) : PI X tg e (iOr u w) :=
  ⟨fun pins s σ H R I z => z.elim (h.run pins s σ H R I) (k.run pins s σ H R I)⟩
theorem pi_seq {X : Cx} {tg e : Expr} {te : TE} (he : PE X e te) : PI X tg e (iOr (iList X.K te) (iTup X.K te)) := pi_or (pi_list he) (pi_tup he)
theorem d_seqVar {K : PySem.W.Frag} {σ : L2.St} {H : Hp} {R : It → Hp → Prop} {n : Nat} {a : Addr} {xs : List V} (e : σ[n]? = some (some (.ref a))) (h : SeqAt K H a xs)
    (k : ∀ J G, Walk J xs.length G (YAt xs) → (∀ H', Same H H' → G H') → R J H) : iOr (iList K (tVar n)) (iTup K (tVar n)) σ H R := by
  rcases h with h | h
  · exact .inl ⟨_, e, a, rfl, ⟨xs, h⟩, k _ _ walk_list fun H' s => s.seq h⟩
  · exact .inr ⟨_, e, a, rfl, ⟨xs, h⟩, k _ _ walk_tup fun H' s => sqT_same h s⟩
theorem d_enumVar {K : PySem.W.Frag} {σ : L2.St} {H : Hp} {R : It → Hp → Prop} {n : Nat} {a : Addr} {xs : List V} (e : σ[n]? = some (some (.ref a))) (h : SeqAt K H a xs)
    (k : ∀ J G, Walk J xs.length G (YPair (fun i => some (.int (i : Nat))) (fun i => xs[i]?)) → (∀ H', Same H H' → G H') → R J H) :
    iOr (iEnum K (tCons (tVar n) tNil)) (iEnumT K (tCons (tVar n) tNil)) σ H R := by
  rcases h with h | h
  · exact .inl ⟨_, e, a, xs, rfl, h, k _ _ walk_enum fun H' s => s.seq h⟩
  · exact .inr ⟨_, e, a, xs, rfl, h, k _ _ walk_enumT fun H' s => sqT_same h s⟩
theorem eqV_str {z y : Str} : eqV (.str z) (.str y) = (z == y) := rfl
theorem inV_Ss (w : WW.Wd) (ws : List WW.Wd) : inV (.str (WW.S w)) (WW.Ss ws) = decide (w ∈ ws) := by
  unfold inV WW.Ss
  rw [Bool.eq_iff_iff]
  simp only [List.any_map, List.any_eq_true, Function.comp, decide_eq_true_eq, eqV_str, beq_iff_eq, WW.S_inj]
  constructor
  · rintro ⟨x, m, rfl⟩; exact m
  · intro m; exact ⟨w, m, rfl⟩
theorem flat_Ss (ws : List WW.Wd) : (WW.Ss ws).all flatV = true := by
  unfold WW.Ss
  rw [List.all_map]
  exact List.all_eq_true.mpr fun _ _ => rfl
theorem d_inSs {K : PySem.W.Frag} {H : Hp} {Q : VK} {a : Addr} {w : WW.Wd} {ws : List WW.Wd} (h : SeqAt K H a (WW.Ss ws)) (k : Q (.bl (decide (w ∈ ws))) H) : rIn K false (.str (WW.S w)) (.ref a) H Q :=
  ⟨a, _, rfl, h, rfl, flat_Ss ws, by rw [inV_Ss]; exact k⟩
theorem d_notInSs {K : PySem.W.Frag} {H : Hp} {Q : VK} {a : Addr} {w : WW.Wd} {ws : List WW.Wd} (h : SeqAt K H a (WW.Ss ws)) (k : Q (.bl (!decide (w ∈ ws))) H) : rIn K true (.str (WW.S w)) (.ref a) H Q :=
  ⟨a, _, rfl, h, rfl, flat_Ss ws, by rw [inV_Ss]; exact k⟩
end OQ
namespace OQ
open PySem L2 PySem.Spec PyProof.Rows
theorem sortK {X : Cx} (K : PySem.W.Frag) (h : X.K = K := by rfl) : CallR X (.builtin "sorted") (rSortedI K) := h ▸ cr_sortedI
theorem lenK {X : Cx} (K : PySem.W.Frag) (h : X.K = K := by rfl) : CallR X (.builtin "len") (RD.rLen K) := h ▸ RD.c_len
theorem inK {X : Cx} (K : PySem.W.Frag) (h : X.K = K := by rfl) : OpR X (compareOp .In) (rIn K false) := h ▸ op_in_seq
theorem notInK {X : Cx} (K : PySem.W.Frag) (h : X.K = K := by rfl) : OpR X (compareOp .NotIn) (rIn K true) := h ▸ op_notIn_seq
end OQ

/-! ### any for, step by step -/
namespace RD
open PySem L2
theorem f_it {J : It} {n : Nat} {G : Hp → Prop} {Y : Nat → Hp → V → Hp → Prop} {σ : L2.St} {H : Hp} {g : TG} {tb : TS} {nx : L2.St → Hp → Prop} {rt : VK} (w : Walk J n G Y) (Pv : Nat → L2.St → Hp → Prop) (h0 : Pv 0 σ H) (hG : ∀ i σ H, i ≤ n → Pv i σ H → G H)
    (hs : ∀ i x σ H H', i < n → Pv i σ H → Y i H x H' → g x σ H' fun σ2 H2 => tb ⟨Pv (i + 1), rt, nx, Pv (i + 1)⟩ σ2 H2) (hd : ∀ σ H, Pv n σ H → nx σ H) :
    ∃ W : Nat → Nat → L2.St → Hp → Prop, (∃ m, W 0 m σ H) ∧ ∀ i m σ H, W i m σ H → (J.stop i H ∧ nx σ H) ∨ (J.go i H ∧ ∃ N : L2.St → Hp → Prop, (∀ σ' H', N σ' H' → ∃ m', m' < m ∧ W (i + 1) m' σ' H') ∧
      ∀ x H', J.yld i H x H' → g x σ H' fun σ2 H2 => tb ⟨N, rt, nx, N⟩ σ2 H2) := for_it (D := ⟨nx, rt, fun _ _ => False, fun _ _ => False⟩) w Pv h0 hG hs hd
/-- a pair taken apart by two names -/
theorem d_two {K : PySem.W.Frag} {n i j : Nat} {a : Addr} {x y : V} {σ : L2.St} {H : Hp} {R : L2.St → Hp → Prop} (en : n = 2) (e : SqT K H a [x, y]) (k : R ((σ.set i (some x)).set j (some y)) H) :
    gTup K n (gCons (gName i) (gCons (gName j) gNil)) (.ref a) σ H R := ⟨a, [x, y], rfl, e, en.symm, x, [y], rfl, y, [], rfl, rfl, k⟩
end RD
namespace OQ
open PySem L2
theorem d_tupSeq {K : PySem.W.Frag} {H : Hp} {a : Addr} {xs : List V} {Q : VK} (h : SeqAt K H a xs) (k : ∀ H' t, Same H H' → SqT K H' t xs → Q (.ref t) H') : rTupK K [.ref a] H Q := by
  rcases h with h | h
  · exact ⟨a, xs, rfl, .inl ⟨h, fun l hl => k _ l (fun b u e => by rw [upd_ne (ne_of_none e hl)]; exact e) (SqT.of upd_same)⟩⟩
  · exact ⟨a, xs, rfl, .inr ⟨h, k _ a (Same.refl _) h⟩⟩
end OQ
namespace RD
open PySem L2
theorem d_bm {K : PySem.W.Frag} {T : String} {r : V → List V → Hp → VK → Prop} {to : TE} {t : TA} {σ : L2.St} {H : Hp} {Q : VK} (h : to σ H fun x H1 => tyV K T x H1 ∧ t σ H1 fun xs H2 => r x xs H2 Q) : tBM K T r to t σ H Q := h
theorem tyL {K : PySem.W.Frag} {H : Hp} {p : Addr} {xs : List V} (e : H p = some (.lst xs)) : tyV K "list" (.ref p) H := .inl ⟨rfl, xs, SqL.of e⟩
theorem d_app {H : Hp} {Q : VK} {p : Addr} {xs : List V} {y : V} (e : H p = some (.lst xs)) (n : xs.length < sizeLine) (h : Q .non (upd H p (.lst (xs ++ [y])))) : rAppend (.ref p) [y] H Q := ⟨p, xs, y, rfl, rfl, e, n, h⟩
end RD
namespace WW
open PySem L2
def Ns (r : List Nat) : List V := r.map fun (j : Nat) => V.int j
theorem Ns_len (r : List Nat) : (Ns r).length = r.length := List.length_map ..
theorem Ns_app (r : List Nat) (j : Nat) : Ns r ++ [V.int j] = Ns (r ++ [j]) := by unfold Ns; rw [List.map_append]; rfl
theorem Ns_get {r : List Nat} {i : Nat} {x : V} (h : (Ns r)[i]? = some x) : ∃ j, r[i]? = some j ∧ x = .int (j : Nat) := by
  unfold Ns at h
  rw [List.getElem?_map] at h
  cases e : r[i]? with
  | none => rw [e] at h; cases h
  | some w => rw [e] at h; cases h; exact ⟨w, rfl, rfl⟩
end WW
namespace RD
open PySem L2
theorem d_dput {td ty tv : TE} {σ : L2.St} {H : Hp} {nx bk ct : L2.St → Hp → Prop} {rt : VK} (h : tv σ H fun v H1 => td σ H1 fun x H2 => ty σ H2 fun y H3 => ∃ a H4, x = .ref a ∧ DPut H3 a y v H4 ∧ nx σ H4) : sDPut td ty tv ⟨nx, rt, bk, ct⟩ σ H := h
theorem d_dget {td ty : TE} {σ : L2.St} {H : Hp} {Q : VK} (h : td σ H fun x H1 => ty σ H1 fun y H2 => ∃ a v, x = .ref a ∧ DGet H2 a y (some v) ∧ Q v H2) : tDGet td ty σ H Q := h
end RD
namespace RD
open PySem L2
theorem d_din {ty td : TE} {σ : L2.St} {H : Hp} {Q : VK} (h : ty σ H fun y H1 => td σ H1 fun x H2 => ∃ a o, x = .ref a ∧ DGet H2 a y o ∧ Q (.bl o.isSome) H2) : tDIn ty td σ H Q := h
theorem d_dnotin {ty td : TE} {σ : L2.St} {H : Hp} {Q : VK} (h : ty σ H fun y H1 => td σ H1 fun x H2 => ∃ a o, x = .ref a ∧ DGet H2 a y o ∧ Q (.bl (!o.isSome)) H2) : tDNotIn ty td σ H Q := h
end RD
namespace RD
open PySem L2
theorem d_break {nx bk ct : L2.St → Hp → Prop} {rt : VK} {σ : L2.St} {H : Hp} (h : bk σ H) : tBreak ⟨nx, rt, bk, ct⟩ σ H := h
end RD
namespace WW
open PySem L2
theorem Ss_app (ws : List Wd) (w : Wd) : Ss ws ++ [V.str (S w)] = Ss (ws ++ [w]) := by unfold Ss; rw [List.map_append]; rfl
theorem nodup_snoc {α : Type} {l : List α} {x : α} (h : l.Nodup) (n : x ∉ l) : (l ++ [x]).Nodup := by
  rw [List.nodup_append]
  refine ⟨h, by simp, fun a ha b hb q => ?_⟩
  rw [List.mem_singleton] at hb
  subst hb; subst q
  exact n ha
end WW
namespace RD
open PySem L2
theorem d_lstRg {ta : TE} {σ : L2.St} {H : Hp} {Q : VK} (h : ta σ H fun x H1 => ∃ n, x = .int n ∧ RgOk 0 n ∧ ∀ q, H1 q = none → Q (.ref q) (upd H1 q (.lst (rgV 0 n)))) : tLstRg (tRg1 ta) σ H Q := h
end RD

/-! ### breadth first -/
namespace WW
open PySem L2
def Dk (ps : List (Nat × Nat)) : List (Key × V) := ps.map fun p => (Sum.inl (p.1 : Int), V.int p.2)
def look (ps : List (Nat × Nat)) (v : Nat) : Option Nat := (ps.find? fun p => p.1 == v).map (·.2)
theorem valV_Dk (ps : List (Nat × Nat)) (v : Nat) : valV (Dk ps) (Sum.inl (v : Int)) = (look ps v).map fun (d : Nat) => V.int d := by
  induction ps with
  | nil => rfl
  | cons p ps ih =>
    unfold Dk look at *
    rw [List.map_cons, List.find?_cons]
    by_cases c : p.1 = v
    · rw [valV_pos (by rw [c])]
      simp [c]
    · rw [valV_neg (fun z => c (by have := Sum.inl.inj z; omega)), ih]
      have e : (p.1 == v) = false := by simpa using c
      rw [e]
theorem look_none {ps : List (Nat × Nat)} {v : Nat} : look ps v = none ↔ v ∉ ps.map (·.1) := by
  unfold look
  rw [Option.map_eq_none_iff, List.find?_eq_none, List.mem_map]
  constructor
  · rintro h ⟨p, m, e⟩
    exact h p m (by simpa using e)
  · intro h p m e
    exact h ⟨p, m, by simpa using e⟩
theorem look_snoc {ps : List (Nat × Nat)} {v r : Nat} (h : look ps v = none) (w : Nat) : look (ps ++ [(v, r)]) w = if w = v then some r else look ps w := by
  by_cases c : w = v
  · subst c
    rw [if_pos rfl]
    unfold look at *
    rw [List.find?_append]
    rw [Option.map_eq_none_iff] at h
    simp [h]
  · rw [if_neg c]
    unfold look
    rw [List.find?_append]
    have : ((v, r) :: []).find? (fun p : Nat × Nat => p.1 == w) = none := by simp; exact fun z => c z.symm
    rw [this]
    simp
theorem Dk_put {ps : List (Nat × Nat)} {v r : Nat} (h : look ps v = none) : putK (Dk ps) (Sum.inl (v : Int)) (.int r) = Dk (ps ++ [(v, r)]) := by
  rw [putK_new]
  · unfold Dk; rw [List.map_append]; rfl
  · rw [valV_Dk, h]; rfl
/-- what is found while the ring of those r steps away is gone through: Sn was seen -/
structure Bf (E : Nat → Nat → Prop) (g n r : Nat) (ps : List (Nat × Nat)) (far : List Nat) (Sn : Nat → Prop) : Prop where
  st : ∀ v d, look ps v = some d ↔ (Ds E g d v ∧ d ≤ r) ∨ (d = r + 1 ∧ Ds E g (r + 1) v ∧ Sn v)
  far : ∀ v, v ∈ far ↔ Ds E g (r + 1) v ∧ Sn v
  nd : (ps.map (·.1)).Nodup
  lt : ∀ p ∈ ps, p.1 < n
theorem Bf.iff {E : Nat → Nat → Prop} {g n r : Nat} {ps : List (Nat × Nat)} {far : List Nat} {Sn Sm : Nat → Prop} (h : Bf E g n r ps far Sn) (e : ∀ v, Sm v ↔ Sn v) : Bf E g n r ps far Sm :=
  ⟨fun v d => by rw [h.st, e], fun v => by rw [h.far, e], h.nd, h.lt⟩
theorem Bf.len {E : Nat → Nat → Prop} {g n r : Nat} {ps : List (Nat × Nat)} {far : List Nat} {Sn : Nat → Prop} (h : Bf E g n r ps far Sn) : ps.length ≤ n := by
  have := nodup_len n _ h.nd (fun x m => by obtain ⟨p, mp, rfl⟩ := List.mem_map.mp m; exact h.lt p mp)
  rwa [List.length_map] at this
theorem Bf.here {E : Nat → Nat → Prop} {g n r : Nat} {ps : List (Nat × Nat)} {far : List Nat} {Sn : Nat → Prop} (h : Bf E g n r ps far Sn) {u : Nat} (hu : Ds E g r u) : look ps u = some r := (h.st u r).mpr (.inl ⟨hu, Nat.le_refl _⟩)
theorem Bf.old {E : Nat → Nat → Prop} {g n r : Nat} {ps : List (Nat × Nat)} {far : List Nat} {Sn : Nat → Prop} (h : Bf E g n r ps far Sn) {v : Nat} (hv : look ps v ≠ none) : Bf E g n r ps far (fun w => Sn w ∨ w = v) := by
  have key : Ds E g (r + 1) v → Sn v := fun k => by
    cases e : look ps v with
    | none => exact absurd e hv
    | some d =>
      rcases (h.st v d).mp e with ⟨k2, le⟩ | ⟨_, _, s⟩
      · have := k.uniq k2; omega
      · exact s
  have same : ∀ w, (Ds E g (r + 1) w ∧ (Sn w ∨ w = v)) ↔ (Ds E g (r + 1) w ∧ Sn w) := fun w => by
    constructor
    · rintro ⟨a, b | rfl⟩
      · exact ⟨a, b⟩
      · exact ⟨a, key a⟩
    · rintro ⟨a, b⟩; exact ⟨a, .inl b⟩
  exact ⟨fun w d => by rw [h.st, same], fun w => by rw [h.far, same], h.nd, h.lt⟩
theorem Bf.new {E : Nat → Nat → Prop} {g n r : Nat} {ps : List (Nat × Nat)} {far : List Nat} {Sn : Nat → Prop} (h : Bf E g n r ps far Sn) {u v : Nat} (hu : Ds E g r u) (e : E u v) (hn : v < n) (hv : look ps v = none) : Bf E g n r (ps ++ [(v, r + 1)]) (far ++ [v]) (fun w => Sn w ∨ w = v) := by
  have dv : Ds E g (r + 1) v := by
    rcases hu.step e with k | ⟨s, hs, k⟩
    · exact k
    · have := (h.st v s).mpr (.inl ⟨k, hs⟩)
      rw [hv] at this; cases this
  refine ⟨fun w d => ?_, fun w => ?_, ?_, ?_⟩
  · rw [look_snoc hv]
    by_cases c : w = v
    · subst c
      rw [if_pos rfl]
      constructor
      · intro z; cases z; exact .inr ⟨rfl, dv, .inr rfl⟩
      · rintro (⟨k, le⟩ | ⟨rfl, _, _⟩)
        · have := k.uniq dv; omega
        · rfl
    · rw [if_neg c, h.st]
      constructor
      · rintro (k | ⟨a, b, s⟩)
        · exact .inl k
        · exact .inr ⟨a, b, .inl s⟩
      · rintro (k | ⟨a, b, s | s⟩)
        · exact .inl k
        · exact .inr ⟨a, b, s⟩
        · exact (c s).elim
  · rw [List.mem_append, h.far, List.mem_singleton]
    constructor
    · rintro (⟨a, s⟩ | rfl)
      · exact ⟨a, .inl s⟩
      · exact ⟨dv, .inr rfl⟩
    · rintro ⟨a, s | s⟩
      · exact .inl ⟨a, s⟩
      · exact .inr s
  · rw [List.map_append, List.nodup_append]
    refine ⟨h.nd, by simp, fun a ha b hb q => ?_⟩
    simp at hb
    subst hb; subst q
    exact (look_none.mp hv) ha
  · intro p m
    rcases List.mem_append.mp m with m | m
    · exact h.lt p m
    · rw [List.mem_singleton.mp m]; exact hn
/-- between the rounds -/
structure Bo (E : Nat → Nat → Prop) (g n r : Nat) (ps : List (Nat × Nat)) (ring : List Nat) : Prop where
  st : ∀ v d, look ps v = some d ↔ Ds E g d v ∧ d ≤ r
  ring : ∀ v, v ∈ ring ↔ Ds E g r v
  nd : (ps.map (·.1)).Nodup
  lt : ∀ p ∈ ps, p.1 < n
theorem Bo.zero {E : Nat → Nat → Prop} {g n : Nat} (hg : g < n) : Bo E g n 0 [(g, 0)] [g] := by
  have z : ∀ v, Ds E g 0 v ↔ v = g := fun v => ⟨fun h => h.1, fun h => ⟨h, fun _ k => absurd k (Nat.not_lt_zero _)⟩⟩
  refine ⟨fun v d => ?_, fun v => by rw [z, List.mem_singleton], by simp, by simp; exact hg⟩
  unfold look
  by_cases c : g = v
  · subst c
    simp
    constructor
    · rintro rfl; exact ⟨(z _).mpr rfl, rfl⟩
    · rintro ⟨_, h⟩; exact h.symm
  · simp [c]
    intro k
    intro q
    subst q
    exact c ((z _).mp k).symm
theorem Bo.begin {E : Nat → Nat → Prop} {g n r : Nat} {ps : List (Nat × Nat)} {ring : List Nat} (h : Bo E g n r ps ring) : Bf E g n r ps [] (fun _ => False) :=
  ⟨fun v d => by rw [h.st]; simp, fun v => by simp, h.nd, h.lt⟩
theorem Bf.done {E : Nat → Nat → Prop} {g n r : Nat} {ps : List (Nat × Nat)} {ring far : List Nat} {Sn : Nat → Prop} (h : Bf E g n r ps far Sn) (hr : ∀ v, v ∈ ring ↔ Ds E g r v) (hs : ∀ u v, u ∈ ring → E u v → Sn v) : Bo E g n (r + 1) ps far := by
  have se : ∀ v, Ds E g (r + 1) v → Sn v := fun v k => by
    obtain ⟨u, ku, e⟩ := k.back
    exact hs u v ((hr u).mpr ku) e
  refine ⟨fun v d => ?_, fun v => ?_, h.nd, h.lt⟩
  · rw [h.st]
    constructor
    · rintro (⟨k, le⟩ | ⟨rfl, k, _⟩)
      · exact ⟨k, by omega⟩
      · exact ⟨k, Nat.le_refl _⟩
    · rintro ⟨k, le⟩
      by_cases c : d ≤ r
      · exact .inl ⟨k, c⟩
      · have : d = r + 1 := by omega
        subst this
        exact .inr ⟨rfl, k, se v k⟩
  · rw [h.far]
    exact ⟨fun k => k.1, fun k => ⟨k, se v k⟩⟩
theorem Bo.end_ {E : Nat → Nat → Prop} {g n r : Nat} {ps : List (Nat × Nat)} (h : Bo E g n r ps []) (v d : Nat) : look ps v = some d ↔ Ds E g d v := by
  rw [h.st]
  refine ⟨fun k => k.1, fun k => ⟨k, ?_⟩⟩
  by_cases c : d ≤ r
  · exact c
  · obtain ⟨u, ku⟩ := k.down r (by omega)
    exact nomatch (h.ring u).mpr ku
end WW

/-! ### the law's marks -/
namespace WW
open PySem L2
def Ms (n : Nat) (m : Nat → Int) : List V := (List.range n).map fun i => V.int (m i)
theorem Ms_len (n : Nat) (m : Nat → Int) : (Ms n m).length = n := by unfold Ms; rw [List.length_map, List.length_range]
theorem Ms_get {n i : Nat} (m : Nat → Int) (h : i < n) : (Ms n m)[i]? = some (.int (m i)) := by unfold Ms; rw [List.getElem?_map, List.getElem?_range h]; rfl
theorem Ms_set {n i : Nat} (m : Nat → Int) (v : Int) : (Ms n m).set i (.int v) = Ms n (fun j => if j = i then v else m j) := by
  apply List.ext_getElem?
  intro j
  by_cases hj : j < n
  · rw [Ms_get _ hj, List.getElem?_set]
    by_cases c : i = j
    · subst c
      rw [if_pos rfl, Ms_len, if_pos hj, if_pos rfl]
    · rw [if_neg c, if_neg (fun z => c z.symm), Ms_get _ hj]
  · rw [List.getElem?_eq_none (by rw [List.length_set, Ms_len]; omega), List.getElem?_eq_none (by rw [Ms_len]; omega)]
theorem rgV_Ms (n : Nat) : rgV 0 (n : Int) = Ms n (fun i => (i : Int)) := by
  unfold rgV Ms
  rw [show ((n : Int) - 0).toNat = n from by omega]
  refine List.map_congr_left fun i _ => ?_
  rw [Int.zero_add]
/-- the links ahead of spot sp of the watch kk -/
def MkF (ws : List Wd) (W : Wd) (kk sp : Nat) (i j : Nat) : Prop := ∃ l k w, ws[k]? = some w ∧ Hit W l w ∧ (k < kk ∨ (k = kk ∧ l < sp)) ∧ ((i = l ∧ j = l + w.length) ∨ (j = l ∧ i = l + w.length))
theorem MkF.zero {ws : List Wd} {W : Wd} {i j : Nat} : ¬ MkF ws W 0 0 i j := by
  rintro ⟨l, k, w, _, _, c, _⟩
  omega
theorem MkF.next {ws : List Wd} {W w : Wd} {kk sp i j : Nat} (hk : ws[kk]? = some w) (n : w ≠ []) (hs : W.length < sp + w.length) : MkF ws W kk sp i j ↔ MkF ws W (kk + 1) 0 i j := by
  refine ⟨fun ⟨l, k, v, h1, h2, c, h3⟩ => ⟨l, k, v, h1, h2, by omega, h3⟩, fun ⟨l, k, v, h1, h2, c, h3⟩ => ⟨l, k, v, h1, h2, ?_, h3⟩⟩
  by_cases e : k = kk
  · subst e
    rw [hk] at h1; cases h1
    have := h2.bound n
    omega
  · omega
theorem MkF.all {ws : List Wd} {W : Wd} {i j : Nat} : MkF ws W ws.length 0 i j ↔ Link ws W i j := by
  constructor
  · rintro ⟨l, k, w, h1, h2, c, h3⟩
    refine ⟨w, List.mem_of_getElem? h1, ?_⟩
    rcases h3 with ⟨rfl, e⟩ | ⟨rfl, e⟩
    · exact .inl ⟨h2, e⟩
    · exact .inr ⟨h2, e⟩
  · rintro ⟨w, m, h⟩
    obtain ⟨k, hk⟩ := List.getElem?_of_mem m
    have := (List.getElem?_eq_some_iff.mp hk).1
    rcases h with ⟨h, e⟩ | ⟨h, e⟩
    · exact ⟨i, k, w, hk, h, by omega, .inl ⟨rfl, e⟩⟩
    · exact ⟨j, k, w, hk, h, by omega, .inr ⟨rfl, e⟩⟩
theorem MkF.miss {ws : List Wd} {W : Wd} {kk sp : Nat} {w : Wd} (hk : ws[kk]? = some w) (h : ¬ Hit W sp w) (i j : Nat) : MkF ws W kk (sp + 1) i j ↔ MkF ws W kk sp i j := by
  refine ⟨fun ⟨l, k, v, h1, h2, c, h3⟩ => ⟨l, k, v, h1, h2, ?_, h3⟩, fun ⟨l, k, v, h1, h2, c, h3⟩ => ⟨l, k, v, h1, h2, by omega, h3⟩⟩
  rcases c with c | ⟨rfl, c⟩
  · exact .inl c
  · by_cases e : l = sp
    · subst e
      rw [hk] at h1
      cases h1
      exact (h h2).elim
    · exact .inr ⟨rfl, by omega⟩
theorem MkF.hit {ws : List Wd} {W : Wd} {kk sp : Nat} {w : Wd} (hk : ws[kk]? = some w) (h : Hit W sp w) (i j : Nat) : MkF ws W kk (sp + 1) i j ↔ addE (MkF ws W kk sp) sp (sp + w.length) i j := by
  constructor
  · rintro ⟨l, k, v, h1, h2, c, h3⟩
    by_cases e : l = sp ∧ k = kk
    · obtain ⟨rfl, rfl⟩ := e
      rw [hk] at h1
      cases h1
      rcases h3 with ⟨rfl, rfl⟩ | ⟨rfl, rfl⟩
      · exact .inr (.inl ⟨rfl, rfl⟩)
      · exact .inr (.inr ⟨rfl, rfl⟩)
    · exact .inl ⟨l, k, v, h1, h2, by omega, h3⟩
  · rintro (⟨l, k, v, h1, h2, c, h3⟩ | h3)
    · exact ⟨l, k, v, h1, h2, by omega, h3⟩
    · refine ⟨sp, kk, w, hk, h, by omega, ?_⟩
      rcases h3 with ⟨rfl, rfl⟩ | ⟨rfl, rfl⟩
      · exact .inl ⟨rfl, rfl⟩
      · exact .inr ⟨rfl, rfl⟩
theorem Cls.iff {m : Nat → Int} {n : Nat} {F G : Nat → Nat → Prop} (h : Cls m n F) (e : ∀ i j, G i j ↔ F i j) : Cls m n G :=
  ⟨fun i j hi hj z => (h.snd i j hi hj z).mono fun u v k => (e u v).mpr k, fun i j z => h.cmp i j ((e i j).mp z)⟩
theorem Cls.zero {ws : List Wd} {W : Wd} {n : Nat} : Cls (fun i => (i : Int)) n (MkF ws W 0 0) :=
  ⟨fun i j _ _ z => by have : i = j := by omega
                       subst this; exact .refl, fun i j z => (MkF.zero z).elim⟩
/-- marks of the first at spots set anew -/
def relabTo (m : Nat → Int) (a b at_ : Nat) : Nat → Int := fun i => if i < at_ ∧ m i = m b then m a else m i
theorem relabTo_zero (m : Nat → Int) (a b : Nat) : relabTo m a b 0 = m := by funext i; unfold relabTo; rw [if_neg (by omega)]
theorem relabTo_a {m : Nat → Int} {a b t : Nat} : relabTo m a b t a = m a := by unfold relabTo; split <;> rfl
theorem relabTo_at {m : Nat → Int} {a b t : Nat} : relabTo m a b t t = m t := by unfold relabTo; rw [if_neg (by omega)]
theorem relabTo_hit {m : Nat → Int} {a b t : Nat} (h : m t = m b) : (fun j => if j = t then m a else relabTo m a b t j) = relabTo m a b (t + 1) := by
  funext j
  unfold relabTo
  by_cases c : j = t
  · subst c; rw [if_pos rfl, if_pos ⟨by omega, h⟩]
  · rw [if_neg c]
    by_cases d : j < t ∧ m j = m b
    · rw [if_pos d, if_pos ⟨by omega, d.2⟩]
    · rw [if_neg d, if_neg (fun z => d ⟨by omega, z.2⟩)]
theorem relabTo_miss {m : Nat → Int} {a b t : Nat} (h : m t ≠ m b) : relabTo m a b (t + 1) = relabTo m a b t := by
  funext j
  unfold relabTo
  by_cases d : j < t ∧ m j = m b
  · rw [if_pos d, if_pos ⟨by omega, d.2⟩]
  · rw [if_neg d, if_neg (fun z => d ⟨by
      rcases Nat.lt_or_ge j t with q | q
      · exact q
      · have : j = t := by omega
        subst this; exact (h z.2).elim, z.2⟩)]
theorem Ms_congr {n : Nat} {m m' : Nat → Int} (h : ∀ i, i < n → m i = m' i) : Ms n m = Ms n m' := by
  unfold Ms
  exact List.map_congr_left fun i hi => by rw [h i (List.mem_range.mp hi)]
end WW

/-! ### rows of texts, compared -/
namespace OQ
open PySem L2 PySem.Spec PyProof.Rows
def Td (ls : List WW.Wd) : List PyData := ls.map fun l => .str (WW.S l)
theorem Td_all {K : PySem.W.Frag} {H : Hp} : ∀ ls : List WW.Wd, DpAll K H (WW.Ss ls) (Td ls)
  | [] => .nil
  | l :: ls => .cons (.str _) (Td_all ls)
theorem Td_lay : ∀ ls : List WW.Wd, (∀ l ∈ ls, WW.Lw l) → PyData.canLayAll0 (Td ls) = true ∧ PyData.depthAll (Td ls) = 0
  | [], _ => ⟨by rw [Td, List.map_nil, PyData.canLayAll0], by rw [Td, List.map_nil, PyData.depthAll]⟩
  | l :: ls, h => by
    obtain ⟨h1, h2⟩ := Td_lay ls fun x m => h x (List.mem_cons_of_mem _ m)
    have hl := h l (List.mem_cons_self ..)
    have e : Td (l :: ls) = .str (WW.S l) :: Td ls := rfl
    rw [e, PyData.canLayAll0, PyData.canLay0, PyData.depthAll, PyData.depth, h1, h2]
    refine ⟨?_, rfl⟩
    rw [Bool.and_true]
    show (WW.S l).cps.all (· < 0x110000) = true
    have : ∀ c ∈ l, c < 0x110000 := fun c m => by have := hl c m; unfold WW.Lt at this; omega
    simpa [WW.S] using this
theorem Td_shaped (ls : List WW.Wd) (h : ∀ l ∈ ls, WW.Lw l) : SeqAt.shaped (.list (Td ls)) = true ∧ SeqAt.shaped (.tuple (Td ls)) = true := by
  obtain ⟨h1, h2⟩ := Td_lay ls h
  constructor <;> (unfold SeqAt.shaped; rw [PyData.canLay0, PyData.depth, h1, h2]; rfl)
theorem Td_eqv : ∀ ls ms : List WW.Wd, PyData.eqvAll (Td ls) (Td ms) = decide (ls = ms)
  | [], [] => by rw [Td, List.map_nil, PyData.eqvAll]; rfl
  | [], m :: ms => by rw [Td, Td, List.map_nil, List.map_cons, PyData.eqvAll]; rfl
  | l :: ls, [] => by rw [Td, Td, List.map_nil, List.map_cons, PyData.eqvAll]; rfl
  | l :: ls, m :: ms => by
    have e1 : Td (l :: ls) = .str (WW.S l) :: Td ls := rfl
    have e2 : Td (m :: ms) = .str (WW.S m) :: Td ms := rfl
    rw [e1, e2, PyData.eqvAll, PyData.eqv, Td_eqv ls ms, Bool.eq_iff_iff]
    simp only [Bool.and_eq_true, beq_iff_eq, decide_eq_true_eq, List.cons.injEq, WW.S_inj]
theorem d_neSs {K : PySem.W.Frag} {H : Hp} {Q : VK} {a b : Addr} {ls ms : List WW.Wd} (ha : SqL K H a (WW.Ss ls)) (hb : SqL K H b (WW.Ss ms)) (la : ∀ l ∈ ls, WW.Lw l) (lb : ∀ l ∈ ms, WW.Lw l) (k : Q (.bl (!decide (ls = ms))) H) : rNeD K (.ref a) (.ref b) H Q :=
  ⟨_, _, .lst ha (Td_all ls), .lst hb (Td_all ms), (Td_shaped ls la).1, (Td_shaped ms lb).1, by rw [PyData.eqv, Td_eqv]; exact k⟩
theorem d_eqSs {K : PySem.W.Frag} {H : Hp} {Q : VK} {a b : Addr} {ls ms : List WW.Wd} (ha : SqL K H a (WW.Ss ls)) (hb : SqL K H b (WW.Ss ms)) (la : ∀ l ∈ ls, WW.Lw l) (lb : ∀ l ∈ ms, WW.Lw l) (k : Q (.bl (decide (ls = ms))) H) : rEqD K (.ref a) (.ref b) H Q :=
  ⟨_, _, .lst ha (Td_all ls), .lst hb (Td_all ms), (Td_shaped ls la).1, (Td_shaped ms lb).1, by rw [PyData.eqv, Td_eqv]; exact k⟩
theorem d_eqSsT {K : PySem.W.Frag} {H : Hp} {Q : VK} {a b : Addr} {ls ms : List WW.Wd} (ha : SqT K H a (WW.Ss ls)) (hb : SqT K H b (WW.Ss ms)) (la : ∀ l ∈ ls, WW.Lw l) (lb : ∀ l ∈ ms, WW.Lw l) (k : Q (.bl (decide (ls = ms))) H) : rEqD K (.ref a) (.ref b) H Q :=
  ⟨_, _, .tup ha (Td_all ls), .tup hb (Td_all ms), (Td_shaped ls la).2, (Td_shaped ms lb).2, by rw [PyData.eqv, Td_eqv]; exact k⟩
theorem d_neSsT {K : PySem.W.Frag} {H : Hp} {Q : VK} {a b : Addr} {ls ms : List WW.Wd} (ha : SqT K H a (WW.Ss ls)) (hb : SqT K H b (WW.Ss ms)) (la : ∀ l ∈ ls, WW.Lw l) (lb : ∀ l ∈ ms, WW.Lw l) (k : Q (.bl (!decide (ls = ms))) H) : rNeD K (.ref a) (.ref b) H Q :=
  ⟨_, _, .tup ha (Td_all ls), .tup hb (Td_all ms), (Td_shaped ls la).2, (Td_shaped ms lb).2, by rw [PyData.eqv, Td_eqv]; exact k⟩
end OQ

/-! ### a piece found in a word -/
namespace WW
open PySem L2
theorem Hit.of_sub {W w : Wd} {i : Nat} : Builtin.Str.subAt (S W) (S w) i = true ↔ Hit W i w := by
  rw [StrLaws.subAt_eq, beq_iff_eq, S_cps, S_cps, S_len]
  unfold Hit piece
  rw [Nat.add_sub_cancel_left]
theorem occ_full (s sub : Str) (hi : Nat) : ∀ (l : List Nat) (a f : Nat), (forIn l (#[a], f) (StrLaws.occBody s sub hi 1)).run.fst = #[a]
  | [], a, f => rfl
  | x :: l, a, f => by
    rw [List.forIn_cons]
    unfold StrLaws.occBody
    rw [if_neg (by intro h; have := h.1.1.1; simp at this)]
    exact occ_full s sub hi l a f
theorem occ_first (s sub : Str) (hi : Nat) : ∀ (n lo free : Nat), free ≤ lo →
    (∃ i, lo ≤ i ∧ i < lo + n ∧ i + sub.length ≤ hi ∧ Builtin.Str.subAt s sub i = true ∧ (∀ j, lo ≤ j → j < i → ¬ (j + sub.length ≤ hi ∧ Builtin.Str.subAt s sub j = true)) ∧ (forIn (List.range' lo n) ((#[] : Array Nat), free) (StrLaws.occBody s sub hi 1)).run.fst = #[i]) ∨
    ((∀ j, lo ≤ j → j < lo + n → ¬ (j + sub.length ≤ hi ∧ Builtin.Str.subAt s sub j = true)) ∧ (forIn (List.range' lo n) ((#[] : Array Nat), free) (StrLaws.occBody s sub hi 1)).run.fst = #[])
  | 0, lo, free, _ => .inr ⟨fun j h1 h2 => by omega, rfl⟩
  | n + 1, lo, free, hf => by
    rw [List.range'_succ, List.forIn_cons]
    by_cases hc : lo + sub.length ≤ hi ∧ Builtin.Str.subAt s sub lo = true
    · refine .inl ⟨lo, Nat.le_refl _, by omega, hc.1, hc.2, fun j h1 h2 => by omega, ?_⟩
      have c1 : (((#[] : Array Nat), free).fst.size < 1 ∧ ((#[] : Array Nat), free).snd ≤ lo) ∧ lo + sub.length ≤ hi := ⟨⟨by simp, hf⟩, hc.1⟩
      have e : StrLaws.occBody s sub hi 1 lo ((#[] : Array Nat), free) = pure (ForInStep.yield (#[lo], lo + sub.length)) := by
        unfold StrLaws.occBody
        rw [if_pos ⟨c1, hc.2⟩]
        rfl
      rw [e]
      exact occ_full s sub hi _ lo _
    · have e : StrLaws.occBody s sub hi 1 lo ((#[] : Array Nat), free) = pure (ForInStep.yield ((#[] : Array Nat), free)) := by
        unfold StrLaws.occBody
        rw [if_neg (fun h => hc ⟨h.1.2, h.2⟩)]
      rw [e]
      rcases occ_first s sub hi n (lo + 1) free (by omega) with ⟨i, h1, h2, h3, h4, h5, h6⟩ | ⟨h1, h2⟩
      · refine .inl ⟨i, by omega, by omega, h3, h4, fun j j1 j2 => ?_, h6⟩
        by_cases c : j = lo
        · subst c; exact hc
        · exact h5 j (by omega) j2
      · refine .inr ⟨fun j j1 j2 => ?_, h2⟩
        by_cases c : j = lo
        · subst c; exact hc
        · exact h1 j (by omega) (by omega)
/-- what a search for w from spot lo on tells: the next spot where it stands, or -1 -/
def Nx (W w : Wd) (lo : Nat) (v : Int) : Prop := (∃ i : Nat, v = i ∧ lo ≤ i ∧ Hit W i w ∧ ∀ j, lo ≤ j → j < i → ¬ Hit W j w) ∨ (v = -1 ∧ ∀ j, lo ≤ j → ¬ Hit W j w)
theorem occ_nx {W w : Wd} {lo : Nat} (n : w ≠ []) : Nx W w lo (match Builtin.Str.occurrences (S W) (S w) lo (S W).length 1 with | i :: _ => (i : Int) | [] => -1) := by
  rw [StrLaws.occ_eq]
  rcases occ_first (S W) (S w) (S W).length ((S W).length + 1 - lo) lo lo (Nat.le_refl _) with ⟨i, h1, h2, h3, h4, h5, h6⟩ | ⟨h1, h2⟩
  · rw [h6]
    refine .inl ⟨i, rfl, h1, Hit.of_sub.mp h4, fun j j1 j2 z => h5 j j1 j2 ⟨?_, Hit.of_sub.mpr z⟩⟩
    rw [S_len, S_len]; exact z.bound n
  · rw [h2]
    refine .inr ⟨rfl, fun j j1 z => ?_⟩
    have b := z.bound n
    have l0 : 0 < w.length := List.length_pos_iff.mpr n
    refine h1 j j1 ?_ ⟨by rw [S_len, S_len]; exact b, Hit.of_sub.mpr z⟩
    rw [S_len]; omega
theorem find_nx {W w : Wd} (n : w ≠ []) : Nx W w 0 (Txt.find (S W) (S w)) := occ_nx n
theorem find3_nx {W w : Wd} {lo : Nat} {i : Int} (n : w ≠ []) (e : i = lo) : Nx W w lo (Txt.find3 (S W) (S w) i) := by
  subst e
  have e : PySem.fromIndex (S W).length (lo : Int) = lo := by
    unfold PySem.fromIndex
    split <;> omega
  have h := occ_nx (W := W) (w := w) (lo := lo) n
  unfold Txt.find3
  rw [e]
  exact h
/-! the links, as they are found piece by piece -/
/-- those found ahead of spot low with the piece kk -/
def LkG (ws : List Wd) (W : Wd) (kk low : Nat) (i j : Nat) : Prop := ∃ l k w, ws[k]? = some w ∧ Hit W l w ∧ (k < kk ∨ (k = kk ∧ l < low)) ∧ ((i = l ∧ j = l + w.length) ∨ (j = l ∧ i = l + w.length))
theorem LkG.zero {ws : List Wd} {W : Wd} {i j : Nat} : ¬ LkG ws W 0 0 i j := by
  rintro ⟨l, k, w, _, _, c, _⟩
  omega
theorem LkG.skip {ws : List Wd} {W w : Wd} {kk lo hi : Nat} (hk : ws[kk]? = some w) (le : lo ≤ hi) (n : ∀ j, lo ≤ j → j < hi → ¬ Hit W j w) (i j : Nat) : LkG ws W kk hi i j ↔ LkG ws W kk lo i j := by
  refine ⟨fun ⟨l, k, v, h1, h2, c, h3⟩ => ⟨l, k, v, h1, h2, ?_, h3⟩, fun ⟨l, k, v, h1, h2, c, h3⟩ => ⟨l, k, v, h1, h2, by omega, h3⟩⟩
  rcases c with c | ⟨rfl, c⟩
  · exact .inl c
  · rw [hk] at h1
    cases h1
    refine .inr ⟨rfl, ?_⟩
    apply Nat.lt_of_not_le
    intro z
    exact n l z c h2
theorem LkG.next {ws : List Wd} {W w : Wd} {kk lo i j : Nat} (hk : ws[kk]? = some w) (n : ∀ j, lo ≤ j → ¬ Hit W j w) : LkG ws W (kk + 1) 0 i j ↔ LkG ws W kk lo i j := by
  refine ⟨fun ⟨l, k, v, h1, h2, c, h3⟩ => ⟨l, k, v, h1, h2, ?_, h3⟩, fun ⟨l, k, v, h1, h2, c, h3⟩ => ⟨l, k, v, h1, h2, by omega, h3⟩⟩
  by_cases e : k = kk
  · subst e
    rw [hk] at h1
    cases h1
    refine .inr ⟨rfl, ?_⟩
    apply Nat.lt_of_not_le
    intro z
    exact n l z h2
  · omega
theorem LkG.all {ws : List Wd} {W : Wd} {i j : Nat} : LkG ws W ws.length 0 i j ↔ Link ws W i j := by
  constructor
  · rintro ⟨l, k, w, h1, h2, c, h3⟩
    refine ⟨w, List.mem_of_getElem? h1, ?_⟩
    rcases h3 with ⟨rfl, e⟩ | ⟨rfl, e⟩
    · exact .inl ⟨h2, e⟩
    · exact .inr ⟨h2, e⟩
  · rintro ⟨w, m, h⟩
    obtain ⟨k, hk⟩ := List.getElem?_of_mem m
    have kl := (List.getElem?_eq_some_iff.mp hk).1
    rcases h with ⟨h, e⟩ | ⟨h, e⟩
    · exact ⟨i, k, w, hk, h, .inl kl, .inl ⟨rfl, e⟩⟩
    · exact ⟨j, k, w, hk, h, .inl kl, .inr ⟨rfl, e⟩⟩
theorem LkG.hit {ws : List Wd} {W : Wd} {low kk : Nat} {w : Wd} (hk : ws[kk]? = some w) (h : Hit W low w) (i j : Nat) : LkG ws W kk (low + 1) i j ↔ addE (LkG ws W kk low) low (low + w.length) i j := by
  constructor
  · rintro ⟨l, k, v, h1, h2, c, h3⟩
    by_cases e : l = low ∧ k = kk
    · obtain ⟨rfl, rfl⟩ := e
      rw [hk] at h1
      cases h1
      rcases h3 with ⟨rfl, rfl⟩ | ⟨rfl, rfl⟩
      · exact .inr (.inl ⟨rfl, rfl⟩)
      · exact .inr (.inr ⟨rfl, rfl⟩)
    · exact .inl ⟨l, k, v, h1, h2, by omega, h3⟩
  · rintro (⟨l, k, v, h1, h2, c, h3⟩ | h3)
    · exact ⟨l, k, v, h1, h2, by omega, h3⟩
    · refine ⟨low, kk, w, hk, h, by omega, ?_⟩
      rcases h3 with ⟨rfl, rfl⟩ | ⟨rfl, rfl⟩
      · exact .inl ⟨rfl, rfl⟩
      · exact .inr ⟨rfl, rfl⟩
theorem LkG.new {ws : List Wd} {W : Wd} {low kk : Nat} {w : Wd} (nd : ws.Nodup) (n : ∀ w ∈ ws, w ≠ []) (hk : ws[kk]? = some w) (h : Hit W low w) : ¬ LkG ws W kk low low (low + w.length) ∧ ¬ LkG ws W kk low (low + w.length) low := by
  have l0 : 0 < w.length := List.length_pos_iff.mpr (n w (List.mem_of_getElem? hk))
  have key : ∀ l k v, ws[k]? = some v → Hit W l v → (k < kk ∨ (k = kk ∧ l < low)) → l = low → v.length = w.length → False := by
    rintro l k v h1 h2 c rfl e
    have e2 : v = w := by
      unfold Hit at h2 h
      rw [← h2, ← h, e]
    subst e2
    have := (List.getElem?_inj (List.getElem?_eq_some_iff.mp h1).1 nd).mp (h1.trans hk.symm)
    omega
  refine ⟨fun ⟨l, k, v, h1, h2, c, h3⟩ => ?_, fun ⟨l, k, v, h1, h2, c, h3⟩ => ?_⟩ <;>
  · have l1 : 0 < v.length := List.length_pos_iff.mpr (n v (List.mem_of_getElem? h1))
    exact key l k v h1 h2 c (by omega) (by omega)
theorem LkG.le {ws : List Wd} {W : Wd} {low kk i j : Nat} (n : ∀ w ∈ ws, w ≠ []) (h : LkG ws W low kk i j) : i ≤ W.length ∧ j ≤ W.length := by
  obtain ⟨l, k, w, h1, h2, c, h3⟩ := h
  have := h2.bound (n w (List.mem_of_getElem? h1))
  omega
/-- rows of links, of pieces that may be alike -/
structure LkJ (rows : Nat → List Nat) (F : Nat → Nat → Prop) (u : Prop) (m : Nat) : Prop where
  mem : ∀ i j, j ∈ rows i ↔ F i j
  nd : u → ∀ i, (rows i).Nodup
  len : ∀ i, (rows i).length ≤ m
theorem push2 (rows : Nat → List Nat) {a b : Nat} (ne : a ≠ b) (i : Nat) : push (push rows a b) b a i = if i = a then rows i ++ [b] else if i = b then rows i ++ [a] else rows i := by
  unfold push
  by_cases c : i = a
  · subst c; rw [if_neg ne, if_pos rfl, if_pos rfl]
  · simp only [if_neg c]
theorem LkJ.add {rows : Nat → List Nat} {F : Nat → Nat → Prop} {u : Prop} {m a b : Nat} (h : LkJ rows F u m) (ne : a ≠ b) (n1 : u → ¬ F a b) (n2 : u → ¬ F b a) : LkJ (push (push rows a b) b a) (addE F a b) u (m + 1) := by
  refine ⟨fun i j => ?_, fun hu => ?_, fun i => ?_⟩
  · rw [push2 rows ne]
    split
    · rename_i c
      subst c
      rw [List.mem_append, h.mem, List.mem_singleton]
      unfold addE
      constructor
      · rintro (z | z)
        · exact .inl z
        · exact .inr (.inl ⟨rfl, z⟩)
      · rintro (z | ⟨_, z⟩ | ⟨_, z⟩)
        · exact .inl z
        · exact .inr z
        · exact (ne z).elim
    · rename_i c
      split
      · rename_i d
        subst d
        rw [List.mem_append, h.mem, List.mem_singleton]
        unfold addE
        constructor
        · rintro (z | z)
          · exact .inl z
          · exact .inr (.inr ⟨z, rfl⟩)
        · rintro (z | ⟨z, _⟩ | ⟨z, _⟩)
          · exact .inl z
          · exact (c z).elim
          · exact .inr z
      · rename_i d
        rw [h.mem]
        unfold addE
        constructor
        · exact .inl
        · rintro (z | ⟨z, _⟩ | ⟨_, z⟩)
          · exact z
          · exact (c z).elim
          · exact (d z).elim
  · exact (LkI.add ⟨h.mem, h.nd hu⟩ ne (n1 hu) (n2 hu)).nd
  · rw [push2 rows ne]
    have := h.len i
    split
    · rw [List.length_append, List.length_singleton]; omega
    · split
      · rw [List.length_append, List.length_singleton]; omega
      · omega
theorem LkJ.iff {rows : Nat → List Nat} {F G : Nat → Nat → Prop} {u : Prop} {m n : Nat} (h : LkJ rows F u m) (e : ∀ i j, G i j ↔ F i j) (le : m ≤ n) : LkJ rows G u n := ⟨fun i j => (h.mem i j).trans (e i j).symm, h.nd, fun i => Nat.le_trans (h.len i) le⟩
theorem LkJ.zero {ws : List Wd} {W : Wd} {u : Prop} : LkJ (fun _ => []) (LkG ws W 0 0) u 0 := ⟨fun i j => ⟨fun z => (nomatch z), fun z => (LkG.zero z).elim⟩, fun _ _ => List.nodup_nil, fun _ => Nat.le_refl _⟩
/-- ints sorted, as numbers, some alike -/
theorem sorted_natsG {r : List Nat} {ns : List Int} (p : ns.Perm (r.map fun (j : Nat) => (j : Int))) (s : ns.Pairwise (· ≤ ·)) : ∃ q : List Nat, ns = q.map (fun (j : Nat) => (j : Int)) ∧ q.Perm r ∧ q.Pairwise (· ≤ ·) := by
  refine ⟨ns.map Int.toNat, ?_, ?_, ?_⟩
  · rw [List.map_map]
    have : ∀ z ∈ ns, ((fun (j : Nat) => (j : Int)) ∘ Int.toNat) z = z := fun z m => by
      obtain ⟨j, _, rfl⟩ := List.mem_map.mp (p.mem_iff.mp m)
      simp
    rw [List.map_congr_left this, List.map_id']
  · have := p.map Int.toNat
    rw [List.map_map] at this
    have e : (Int.toNat ∘ fun (j : Nat) => (j : Int)) = id := by funext x; simp
    rw [e, List.map_id] at this
    exact this
  · rw [List.pairwise_map]
    exact s.imp fun h => by omega
theorem strict_of {q : List Nat} (s : q.Pairwise (· ≤ ·)) (nd : q.Nodup) : q.Pairwise (· < ·) := by
  have := s.and nd
  exact this.imp fun ⟨h1, h2⟩ => by omega
end WW
namespace RD
open PySem L2
theorem tyS {K : PySem.W.Frag} {H : Hp} {z : Str} : tyV K "str" (.str z) H := rfl
def rFind1 : V → List V → Hp → VK → Prop := fun x xs H Q => ∃ a b, x = .str a ∧ xs = [.str b] ∧ Q (.int (Txt.find a b)) H
def rFind2 : V → List V → Hp → VK → Prop := fun x xs H Q => ∃ (a b : Str) (i : Int), x = .str a ∧ xs = [.str b, .int i] ∧ Q (.int (Txt.find3 a b i)) H
theorem m_find1 {X : Cx} : MtR X "str.find" rFind1 := mt_find
theorem m_find2 {X : Cx} : MtR X "str.find" rFind2 := mt_find3
theorem d_find1 {W w : WW.Wd} {H : Hp} {Q : VK} (n : w ≠ []) (h : ∀ v, WW.Nx W w 0 v → Q (.int v) H) : rFind1 (.str (WW.S W)) [.str (WW.S w)] H Q := ⟨_, _, rfl, rfl, h _ (WW.find_nx n)⟩
theorem d_find2 {W w : WW.Wd} {lo : Nat} {i : Int} {H : Hp} {Q : VK} (n : w ≠ []) (e : i = lo) (h : ∀ v, WW.Nx W w lo v → Q (.int v) H) : rFind2 (.str (WW.S W)) [.str (WW.S w), .int i] H Q := ⟨_, _, _, rfl, rfl, h _ (WW.find3_nx n e)⟩
end RD
namespace OQ
open PySem L2
theorem d_seqVar2 {K : PySem.W.Frag} {σ : L2.St} {H0 H : Hp} {R : It → Hp → Prop} {n : Nat} {a : Addr} {xs : List V} (e : σ[n]? = some (some (.ref a))) (h : SeqAt K H0 a xs) (s : Same H0 H)
    (k : ∀ J G, Walk J xs.length G (YAt xs) → (∀ H', Same H0 H' → G H') → R J H) : iOr (iList K (tVar n)) (iTup K (tVar n)) σ H R := by
  rcases h with h | h
  · exact .inl ⟨_, e, a, rfl, ⟨xs, s.seq h⟩, k _ _ walk_list fun H' s => s.seq h⟩
  · exact .inr ⟨_, e, a, rfl, ⟨xs, sqT_same h s⟩, k _ _ walk_tup fun H' s => sqT_same h s⟩
end OQ

local macro_rules | `(tactic| walk_at "txN") => `(tactic| first | assumption | omega | (simp only [List.length_append, List.length_cons, List.length_nil, List.length_drop, List.length_take] at *; omega))
local macro_rules | `(tactic| walk_at "tx1") => `(tactic| first
  | (with_reducible refine RD.d_break ?_)
  | (with_reducible refine RD.d_eqW ?_)
  | (with_reducible refine RD.d_neW ?_)
  | ((with_reducible (refine' RD.d_lenW ?n ?k)); (case n => walk_at "txN"))
  | ((with_reducible (refine' RD.d_addS ?n ?k)); (case n => walk_at "txN")))
local macro_rules | `(tactic| walk_at "tx") => `(tactic| repeat (first | walk_at "tx1" | walk_at "rd1" | walk_at "rd2"))

namespace Toy
open PySem L2
def top (i : Nat) : Stmt := PySem.Challenge.pw_watchedways_k33_turned_and_beside.main.body.getD i (.Pass ⟨0, 0, 0, 0⟩)
abbrev s_WayError__init : Stmt := inClass (top 3) 0
theorem sc_WayError__init : FnScope ["self", "value"] ["self", "value"] (defScope s_WayError__init) := ⟨rfl, rfl, rfl, by decide +kernel, rfl, by decide +kernel, by decide +kernel⟩
abbrev s_TooMany__init : Stmt := inClass (top 7) 0
theorem sc_TooMany__init : FnScope ["self"] ["self"] (defScope s_TooMany__init) := ⟨rfl, rfl, rfl, by decide +kernel, rfl, by decide +kernel, by decide +kernel⟩
abbrev s_is_integer : Stmt := top 9
theorem sc_is_integer : FnScope ["thing"] ["thing"] (defScope s_is_integer) := ⟨rfl, rfl, rfl, by decide +kernel, rfl, by decide +kernel, by decide +kernel⟩
abbrev s_is_row : Stmt := top 10
theorem sc_is_row : FnScope ["thing"] ["thing"] (defScope s_is_row) := ⟨rfl, rfl, rfl, by decide +kernel, rfl, by decide +kernel, by decide +kernel⟩
abbrev s_first_fault : Stmt := top 14
theorem sc_first_fault : FnScope ["joins", "products", "none", "one"] ["joins", "products", "none", "one"] (defScope s_first_fault) := ⟨rfl, rfl, rfl, by decide +kernel, rfl, by decide +kernel, by decide +kernel⟩
abbrev s_size_fault : Stmt := top 15
theorem sc_size_fault : FnScope ["joins", "products", "none", "one", "many"] ["joins", "products", "none", "one"] (defScope s_size_fault) := ⟨rfl, rfl, rfl, by decide +kernel, rfl, by decide +kernel, by decide +kernel⟩
abbrev s_is_square : Stmt := top 16
theorem sc_is_square : FnScope ["many", "thing", "row"] ["many", "thing"] (defScope s_is_square) := ⟨rfl, rfl, rfl, by decide +kernel, rfl, by decide +kernel, by decide +kernel⟩
abbrev s_is_side : Stmt := top 17
theorem sc_is_side : FnScope ["many", "thing", "item"] ["many", "thing"] (defScope s_is_side) := ⟨rfl, rfl, rfl, by decide +kernel, rfl, by decide +kernel, by decide +kernel⟩
abbrev s_is_below : Stmt := top 18
theorem sc_is_below : FnScope ["many", "thing"] ["many", "thing"] (defScope s_is_below) := ⟨rfl, rfl, rfl, by decide +kernel, rfl, by decide +kernel, by decide +kernel⟩
abbrev s_none_fault : Stmt := top 19
theorem sc_none_fault : FnScope ["joins", "products", "none", "a"] ["joins", "products", "none"] (defScope s_none_fault) := ⟨rfl, rfl, rfl, by decide +kernel, rfl, by decide +kernel, by decide +kernel⟩
abbrev s_one_fault : Stmt := top 20
theorem sc_one_fault : FnScope ["products", "one", "a"] ["products", "one"] (defScope s_one_fault) := ⟨rfl, rfl, rfl, by decide +kernel, rfl, by decide +kernel, by decide +kernel⟩
abbrev s_idle_fault : Stmt := top 21
theorem sc_idle_fault : FnScope ["joins", "a"] ["joins"] (defScope s_idle_fault) := ⟨rfl, rfl, rfl, by decide +kernel, rfl, by decide +kernel, by decide +kernel⟩
abbrev s_swap_fault : Stmt := top 22
theorem sc_swap_fault : FnScope ["joins", "a", "b"] ["joins"] (defScope s_swap_fault) := ⟨rfl, rfl, rfl, by decide +kernel, rfl, by decide +kernel, by decide +kernel⟩
abbrev s_grouping_fault : Stmt := top 23
theorem sc_grouping_fault : FnScope ["word", "table", "worths", "a", "b", "c"] ["word", "table"] (defScope s_grouping_fault) := ⟨rfl, rfl, rfl, by decide +kernel, rfl, by decide +kernel, by decide +kernel⟩
abbrev s_over_fault : Stmt := top 24
theorem sc_over_fault : FnScope ["joins", "products", "worths", "a", "b", "c", "joined"] ["joins", "products"] (defScope s_over_fault) := ⟨rfl, rfl, rfl, by decide +kernel, rfl, by decide +kernel, by decide +kernel⟩
abbrev s_same_fault : Stmt := top 25
theorem sc_same_fault : FnScope ["none", "one"] ["none", "one"] (defScope s_same_fault) := ⟨rfl, rfl, rfl, by decide +kernel, rfl, by decide +kernel, by decide +kernel⟩
abbrev s_Reckoning__init : Stmt := inClass (top 29) 0
theorem sc_Reckoning__init : FnScope ["self", "joins", "products", "none", "one", "fault", "row", "worths", "a", "b", "c"] ["self", "joins", "products", "none", "one"] (defScope s_Reckoning__init) := ⟨rfl, rfl, rfl, by decide +kernel, rfl, by decide +kernel, by decide +kernel⟩
abbrev s_Reckoning__eq : Stmt := inClass (top 29) 1
theorem sc_Reckoning__eq : FnScope ["self", "other"] ["self", "other"] (defScope s_Reckoning__eq) := ⟨rfl, rfl, rfl, by decide +kernel, rfl, by decide +kernel, by decide +kernel⟩
abbrev s_Reckoning_Ujoined : Stmt := inClass (top 29) 10
theorem sc_Reckoning_Ujoined : FnScope ["self", "worths", "found", "worth"] ["self", "worths"] (defScope s_Reckoning_Ujoined) := ⟨rfl, rfl, rfl, by decide +kernel, rfl, by decide +kernel, by decide +kernel⟩
abbrev s_Reckoning_Umeet : Stmt := inClass (top 29) 11
theorem sc_Reckoning_Umeet : FnScope ["self", "a", "b", "below", "worth"] ["self", "a", "b"] (defScope s_Reckoning_Umeet) := ⟨rfl, rfl, rfl, by decide +kernel, rfl, by decide +kernel, by decide +kernel⟩
abbrev s_Reckoning_Uleft : Stmt := inClass (top 29) 12
theorem sc_Reckoning_Uleft : FnScope ["self", "a", "c", "row", "b"] ["self", "a", "c"] (defScope s_Reckoning_Uleft) := ⟨rfl, rfl, rfl, by decide +kernel, rfl, by decide +kernel, by decide +kernel⟩
abbrev s_Reckoning_Uright : Stmt := inClass (top 29) 13
theorem sc_Reckoning_Uright : FnScope ["self", "c", "a", "column", "row", "b"] ["self", "c", "a"] (defScope s_Reckoning_Uright) := ⟨rfl, rfl, rfl, by decide +kernel, rfl, by decide +kernel, by decide +kernel⟩
abbrev s_check_told : Stmt := top 30
theorem sc_check_told : FnScope ["reckoning"] ["reckoning"] (defScope s_check_told) := ⟨rfl, rfl, rfl, by decide +kernel, rfl, by decide +kernel, by decide +kernel⟩
abbrev s_turned : Stmt := top 32
theorem sc_turned : FnScope ["reckoning"] ["reckoning"] (defScope s_turned) := ⟨rfl, rfl, rfl, by decide +kernel, rfl, by decide +kernel, by decide +kernel⟩
abbrev s_beside : Stmt := top 33
theorem sc_beside : FnScope ["one", "other", "size"] ["one", "other"] (defScope s_beside) := ⟨rfl, rfl, rfl, by decide +kernel, rfl, by decide +kernel, by decide +kernel⟩
abbrev s_side_by_side : Stmt := top 34
theorem sc_side_by_side : FnScope ["one", "other", "size", "pairs", "a", "b", "c", "d"] ["one", "other"] (defScope s_side_by_side) := ⟨rfl, rfl, rfl, by decide +kernel, rfl, by decide +kernel, by decide +kernel⟩
abbrev s_Lengths__init : Stmt := inClass (top 36) 0
theorem sc_Lengths__init : FnScope ["self"] ["self"] (defScope s_Lengths__init) := ⟨rfl, rfl, rfl, by decide +kernel, rfl, by decide +kernel, by decide +kernel⟩
abbrev s_Lengths__eq : Stmt := inClass (top 36) 1
theorem sc_Lengths__eq : FnScope ["self", "other"] ["self", "other"] (defScope s_Lengths__eq) := ⟨rfl, rfl, rfl, by decide +kernel, rfl, by decide +kernel, by decide +kernel⟩
abbrev s_Ratio__init : Stmt := inClass (top 39) 0
theorem sc_Ratio__init : FnScope ["self", "top", "bottom", "shared"] ["self", "top", "bottom"] (defScope s_Ratio__init) := ⟨rfl, rfl, rfl, by decide +kernel, rfl, by decide +kernel, by decide +kernel⟩
abbrev s_is_number : Stmt := top 40
theorem sc_is_number : FnScope ["thing"] ["thing"] (defScope s_is_number) := ⟨rfl, rfl, rfl, by decide +kernel, rfl, by decide +kernel, by decide +kernel⟩
abbrev s_Numbers__init : Stmt := inClass (top 45) 0
theorem sc_Numbers__init : FnScope ["self"] ["self"] (defScope s_Numbers__init) := ⟨rfl, rfl, rfl, by decide +kernel, rfl, by decide +kernel, by decide +kernel⟩
abbrev s_Numbers__eq : Stmt := inClass (top 45) 1
theorem sc_Numbers__eq : FnScope ["self", "other"] ["self", "other"] (defScope s_Numbers__eq) := ⟨rfl, rfl, rfl, by decide +kernel, rfl, by decide +kernel, by decide +kernel⟩
abbrev s_law_hand : Stmt := top 47
theorem sc_law_hand : FnScope ["script", "cells", "cell"] ["script"] (defScope s_law_hand) := ⟨rfl, rfl, rfl, by decide +kernel, rfl, by decide +kernel, by decide +kernel⟩
abbrev s_law_draw : Stmt := top 48
theorem sc_law_draw : FnScope ["hand", "many", "cell", "digit", "number"] ["hand", "many"] (defScope s_law_draw) := ⟨rfl, rfl, rfl, by decide +kernel, rfl, by decide +kernel, by decide +kernel⟩
abbrev s_law_chain : Stmt := top 49
theorem sc_law_chain : FnScope ["products", "many", "a", "b"] ["products"] (defScope s_law_chain) := ⟨rfl, rfl, rfl, by decide +kernel, rfl, by decide +kernel, by decide +kernel⟩
abbrev s_law_products : Stmt := top 50
theorem sc_law_products : FnScope ["hand", "kind", "many", "top", "a", "b"] ["hand"] (defScope s_law_products) := ⟨rfl, rfl, rfl, by decide +kernel, rfl, by decide +kernel, by decide +kernel⟩
abbrev s_law_monoid : Stmt := top 51
theorem sc_law_monoid : FnScope ["hand", "found"] ["hand"] (defScope s_law_monoid) := ⟨rfl, rfl, rfl, by decide +kernel, rfl, by decide +kernel, by decide +kernel⟩
abbrev s_law_lot : Stmt := top 52
theorem sc_law_lot : FnScope ["products", "one", "other", "found", "many", "x", "y"] ["products", "one", "other"] (defScope s_law_lot) := ⟨rfl, rfl, rfl, by decide +kernel, rfl, by decide +kernel, by decide +kernel⟩
abbrev s_law_lots : Stmt := top 53
theorem sc_law_lots : FnScope ["products", "one", "size", "joins", "a", "b"] ["products", "one"] (defScope s_law_lots) := ⟨rfl, rfl, rfl, by decide +kernel, rfl, by decide +kernel, by decide +kernel⟩
abbrev s_law_paired : Stmt := top 54
theorem sc_law_paired : FnScope ["one", "other", "many", "found", "a", "row", "b"] ["one", "other"] (defScope s_law_paired) := ⟨rfl, rfl, rfl, by decide +kernel, rfl, by decide +kernel, by decide +kernel⟩
abbrev s_law_beside : Stmt := top 55
theorem sc_law_beside : FnScope ["one", "other", "many", "parts"] ["one", "other"] (defScope s_law_beside) := ⟨rfl, rfl, rfl, by decide +kernel, rfl, by decide +kernel, by decide +kernel⟩
abbrev s_law_turned : Stmt := top 56
theorem sc_law_turned : FnScope ["told", "many", "a", "b"] ["told"] (defScope s_law_turned) := ⟨rfl, rfl, rfl, by decide +kernel, rfl, by decide +kernel, by decide +kernel⟩
abbrev s_law_order : Stmt := top 57
theorem sc_law_order : FnScope ["hand", "many", "rest", "found", "turn"] ["hand", "many"] (defScope s_law_order) := ⟨rfl, rfl, rfl, by decide +kernel, rfl, by decide +kernel, by decide +kernel⟩
abbrev s_law_renamed : Stmt := top 58
theorem sc_law_renamed : FnScope ["told", "order", "many", "back", "a", "parts", "rows", "b"] ["told", "order"] (defScope s_law_renamed) := ⟨rfl, rfl, rfl, by decide +kernel, rfl, by decide +kernel, by decide +kernel⟩
abbrev s_law_made : Stmt := top 59
theorem sc_law_made : FnScope ["hand", "kind", "told", "small", "products", "one"] ["hand"] (defScope s_law_made) := ⟨rfl, rfl, rfl, by decide +kernel, rfl, by decide +kernel, by decide +kernel⟩
abbrev s_law_rows : Stmt := top 60
theorem sc_law_rows : FnScope ["rows", "row"] ["rows"] (defScope s_law_rows) := ⟨rfl, rfl, rfl, by decide +kernel, rfl, by decide +kernel, by decide +kernel⟩
abbrev s_law_is_told : Stmt := top 61
theorem sc_law_is_told : FnScope ["reckoning", "told"] ["reckoning", "told"] (defScope s_law_is_told) := ⟨rfl, rfl, rfl, by decide +kernel, rfl, by decide +kernel, by decide +kernel⟩
abbrev s_law_small : Stmt := top 62
theorem sc_law_small : FnScope ["hand", "kind", "products", "one", "told"] ["hand"] (defScope s_law_small) := ⟨rfl, rfl, rfl, by decide +kernel, rfl, by decide +kernel, by decide +kernel⟩
abbrev s_law_asked : Stmt := top 63
theorem sc_law_asked : FnScope ["kind", "one", "other", "told", "e"] ["kind", "one", "other"] (defScope s_law_asked) := ⟨rfl, rfl, rfl, by decide +kernel, rfl, by decide +kernel, by decide +kernel⟩
abbrev s_law_kept : Stmt := top 64
theorem sc_law_kept : FnScope ["told"] ["told"] (defScope s_law_kept) := ⟨rfl, rfl, rfl, by decide +kernel, rfl, by decide +kernel, by decide +kernel⟩
abbrev s_law : Stmt := top 65
theorem sc_law : FnScope ["script", "hand", "first", "second", "one", "other", "reckoning", "told", "far", "odd", "kind", "a", "b"] ["script"] (defScope s_law) := ⟨rfl, rfl, rfl, by decide +kernel, rfl, by decide +kernel, by decide +kernel⟩
structure Top (K : PySem.W.Frag) (mg : Str → Option Value) where
  C_Reckoning : Addr
  cl_Reckoning : Cls K C_Reckoning
  g_Reckoning : mg "Reckoning" = some (.ref C_Reckoning)
  na_Reckoning_joins : NoAttr K C_Reckoning "joins"
  na_Reckoning_products : NoAttr K C_Reckoning "products"
  na_Reckoning_none : NoAttr K C_Reckoning "none"
  na_Reckoning_one : NoAttr K C_Reckoning "one"
  na_Reckoning__meets : NoAttr K C_Reckoning "_meets"
  na_Reckoning__lefts : NoAttr K C_Reckoning "_lefts"
  na_Reckoning__rights : NoAttr K C_Reckoning "_rights"
  C_Lengths : Addr
  cl_Lengths : Cls K C_Lengths
  g_Lengths : mg "Lengths" = some (.ref C_Lengths)
  na_Lengths_none : NoAttr K C_Lengths "none"
  na_Lengths_one : NoAttr K C_Lengths "one"
  C_Ratio : Addr
  cl_Ratio : Cls K C_Ratio
  g_Ratio : mg "Ratio" = some (.ref C_Ratio)
  na_Ratio_top : NoAttr K C_Ratio "top"
  na_Ratio_bottom : NoAttr K C_Ratio "bottom"
  C_Numbers : Addr
  cl_Numbers : Cls K C_Numbers
  g_Numbers : mg "Numbers" = some (.ref C_Numbers)
  na_Numbers_none : NoAttr K C_Numbers "none"
  na_Numbers_one : NoAttr K C_Numbers "one"
  f_WayError__init : Addr
  fd_WayError__init : FuncData
  F_WayError__init : Fun K "__init__" "WayError.__init__" s_WayError__init f_WayError__init fd_WayError__init
  b_WayError__init : Binds K fd_WayError__init ["self", "value"] []
  f_TooMany__init : Addr
  fd_TooMany__init : FuncData
  F_TooMany__init : Fun K "__init__" "TooMany.__init__" s_TooMany__init f_TooMany__init fd_TooMany__init
  b_TooMany__init : Binds K fd_TooMany__init ["self"] []
  f_is_integer : Addr
  fd_is_integer : FuncData
  F_is_integer : Fun K "is_integer" "is_integer" s_is_integer f_is_integer fd_is_integer
  b_is_integer : Binds K fd_is_integer ["thing"] []
  g_is_integer : mg "is_integer" = some (.ref f_is_integer)
  f_is_row : Addr
  fd_is_row : FuncData
  F_is_row : Fun K "is_row" "is_row" s_is_row f_is_row fd_is_row
  b_is_row : Binds K fd_is_row ["thing"] []
  g_is_row : mg "is_row" = some (.ref f_is_row)
  f_first_fault : Addr
  fd_first_fault : FuncData
  F_first_fault : Fun K "first_fault" "first_fault" s_first_fault f_first_fault fd_first_fault
  b_first_fault : Binds K fd_first_fault ["joins", "products", "none", "one"] []
  g_first_fault : mg "first_fault" = some (.ref f_first_fault)
  f_size_fault : Addr
  fd_size_fault : FuncData
  F_size_fault : Fun K "size_fault" "size_fault" s_size_fault f_size_fault fd_size_fault
  b_size_fault : Binds K fd_size_fault ["joins", "products", "none", "one"] []
  g_size_fault : mg "size_fault" = some (.ref f_size_fault)
  f_is_square : Addr
  fd_is_square : FuncData
  F_is_square : Fun K "is_square" "is_square" s_is_square f_is_square fd_is_square
  b_is_square : Binds K fd_is_square ["many", "thing"] []
  g_is_square : mg "is_square" = some (.ref f_is_square)
  f_is_side : Addr
  fd_is_side : FuncData
  F_is_side : Fun K "is_side" "is_side" s_is_side f_is_side fd_is_side
  b_is_side : Binds K fd_is_side ["many", "thing"] []
  g_is_side : mg "is_side" = some (.ref f_is_side)
  f_is_below : Addr
  fd_is_below : FuncData
  F_is_below : Fun K "is_below" "is_below" s_is_below f_is_below fd_is_below
  b_is_below : Binds K fd_is_below ["many", "thing"] []
  g_is_below : mg "is_below" = some (.ref f_is_below)
  f_none_fault : Addr
  fd_none_fault : FuncData
  F_none_fault : Fun K "none_fault" "none_fault" s_none_fault f_none_fault fd_none_fault
  b_none_fault : Binds K fd_none_fault ["joins", "products", "none"] []
  g_none_fault : mg "none_fault" = some (.ref f_none_fault)
  f_one_fault : Addr
  fd_one_fault : FuncData
  F_one_fault : Fun K "one_fault" "one_fault" s_one_fault f_one_fault fd_one_fault
  b_one_fault : Binds K fd_one_fault ["products", "one"] []
  g_one_fault : mg "one_fault" = some (.ref f_one_fault)
  f_idle_fault : Addr
  fd_idle_fault : FuncData
  F_idle_fault : Fun K "idle_fault" "idle_fault" s_idle_fault f_idle_fault fd_idle_fault
  b_idle_fault : Binds K fd_idle_fault ["joins"] []
  g_idle_fault : mg "idle_fault" = some (.ref f_idle_fault)
  f_swap_fault : Addr
  fd_swap_fault : FuncData
  F_swap_fault : Fun K "swap_fault" "swap_fault" s_swap_fault f_swap_fault fd_swap_fault
  b_swap_fault : Binds K fd_swap_fault ["joins"] []
  g_swap_fault : mg "swap_fault" = some (.ref f_swap_fault)
  f_grouping_fault : Addr
  fd_grouping_fault : FuncData
  F_grouping_fault : Fun K "grouping_fault" "grouping_fault" s_grouping_fault f_grouping_fault fd_grouping_fault
  b_grouping_fault : Binds K fd_grouping_fault ["word", "table"] []
  g_grouping_fault : mg "grouping_fault" = some (.ref f_grouping_fault)
  f_over_fault : Addr
  fd_over_fault : FuncData
  F_over_fault : Fun K "over_fault" "over_fault" s_over_fault f_over_fault fd_over_fault
  b_over_fault : Binds K fd_over_fault ["joins", "products"] []
  g_over_fault : mg "over_fault" = some (.ref f_over_fault)
  f_same_fault : Addr
  fd_same_fault : FuncData
  F_same_fault : Fun K "same_fault" "same_fault" s_same_fault f_same_fault fd_same_fault
  b_same_fault : Binds K fd_same_fault ["none", "one"] []
  g_same_fault : mg "same_fault" = some (.ref f_same_fault)
  f_Reckoning__init : Addr
  fd_Reckoning__init : FuncData
  F_Reckoning__init : Fun K "__init__" "Reckoning.__init__" s_Reckoning__init f_Reckoning__init fd_Reckoning__init
  b_Reckoning__init : Binds K fd_Reckoning__init ["self", "joins", "products", "none", "one"] []
  M_Reckoning : Mk K C_Reckoning f_Reckoning__init
  f_Reckoning__eq : Addr
  fd_Reckoning__eq : FuncData
  F_Reckoning__eq : Fun K "__eq__" "Reckoning.__eq__" s_Reckoning__eq f_Reckoning__eq fd_Reckoning__eq
  b_Reckoning__eq : Binds K fd_Reckoning__eq ["self", "other"] []
  m_Reckoning__eq : Meth K C_Reckoning "__eq__" f_Reckoning__eq
  f_Reckoning_Ujoined : Addr
  fd_Reckoning_Ujoined : FuncData
  F_Reckoning_Ujoined : Fun K "_joined" "Reckoning._joined" s_Reckoning_Ujoined f_Reckoning_Ujoined fd_Reckoning_Ujoined
  b_Reckoning_Ujoined : Binds K fd_Reckoning_Ujoined ["self", "worths"] []
  m_Reckoning_Ujoined : Meth K C_Reckoning "_joined" f_Reckoning_Ujoined
  f_Reckoning_Umeet : Addr
  fd_Reckoning_Umeet : FuncData
  F_Reckoning_Umeet : Fun K "_meet" "Reckoning._meet" s_Reckoning_Umeet f_Reckoning_Umeet fd_Reckoning_Umeet
  b_Reckoning_Umeet : Binds K fd_Reckoning_Umeet ["self", "a", "b"] []
  m_Reckoning_Umeet : Meth K C_Reckoning "_meet" f_Reckoning_Umeet
  f_Reckoning_Uleft : Addr
  fd_Reckoning_Uleft : FuncData
  F_Reckoning_Uleft : Fun K "_left" "Reckoning._left" s_Reckoning_Uleft f_Reckoning_Uleft fd_Reckoning_Uleft
  b_Reckoning_Uleft : Binds K fd_Reckoning_Uleft ["self", "a", "c"] []
  m_Reckoning_Uleft : Meth K C_Reckoning "_left" f_Reckoning_Uleft
  f_Reckoning_Uright : Addr
  fd_Reckoning_Uright : FuncData
  F_Reckoning_Uright : Fun K "_right" "Reckoning._right" s_Reckoning_Uright f_Reckoning_Uright fd_Reckoning_Uright
  b_Reckoning_Uright : Binds K fd_Reckoning_Uright ["self", "c", "a"] []
  m_Reckoning_Uright : Meth K C_Reckoning "_right" f_Reckoning_Uright
  f_check_told : Addr
  fd_check_told : FuncData
  F_check_told : Fun K "check_told" "check_told" s_check_told f_check_told fd_check_told
  b_check_told : Binds K fd_check_told ["reckoning"] []
  g_check_told : mg "check_told" = some (.ref f_check_told)
  f_turned : Addr
  fd_turned : FuncData
  F_turned : Fun K "turned" "turned" s_turned f_turned fd_turned
  b_turned : Binds K fd_turned ["reckoning"] []
  g_turned : mg "turned" = some (.ref f_turned)
  f_beside : Addr
  fd_beside : FuncData
  F_beside : Fun K "beside" "beside" s_beside f_beside fd_beside
  b_beside : Binds K fd_beside ["one", "other"] []
  g_beside : mg "beside" = some (.ref f_beside)
  f_side_by_side : Addr
  fd_side_by_side : FuncData
  F_side_by_side : Fun K "side_by_side" "side_by_side" s_side_by_side f_side_by_side fd_side_by_side
  b_side_by_side : Binds K fd_side_by_side ["one", "other"] []
  g_side_by_side : mg "side_by_side" = some (.ref f_side_by_side)
  f_Lengths__init : Addr
  fd_Lengths__init : FuncData
  F_Lengths__init : Fun K "__init__" "Lengths.__init__" s_Lengths__init f_Lengths__init fd_Lengths__init
  b_Lengths__init : Binds K fd_Lengths__init ["self"] []
  M_Lengths : Mk K C_Lengths f_Lengths__init
  f_Lengths__eq : Addr
  fd_Lengths__eq : FuncData
  F_Lengths__eq : Fun K "__eq__" "Lengths.__eq__" s_Lengths__eq f_Lengths__eq fd_Lengths__eq
  b_Lengths__eq : Binds K fd_Lengths__eq ["self", "other"] []
  m_Lengths__eq : Meth K C_Lengths "__eq__" f_Lengths__eq
  f_Ratio__init : Addr
  fd_Ratio__init : FuncData
  F_Ratio__init : FunD K "__init__" "Ratio.__init__" (defArgs s_Ratio__init) (defBody s_Ratio__init) (defScope s_Ratio__init) [V.int 1] [] f_Ratio__init fd_Ratio__init
  b1_Ratio__init : ∃ ds, Vals [V.int 1] ds ∧ Binds K fd_Ratio__init ["self", "top", "bottom"] ds
  b_Ratio__init : Binds K fd_Ratio__init ["self", "top", "bottom"] []
  M_Ratio : Mk K C_Ratio f_Ratio__init
  f_is_number : Addr
  fd_is_number : FuncData
  F_is_number : Fun K "is_number" "is_number" s_is_number f_is_number fd_is_number
  b_is_number : Binds K fd_is_number ["thing"] []
  g_is_number : mg "is_number" = some (.ref f_is_number)
  f_Numbers__init : Addr
  fd_Numbers__init : FuncData
  F_Numbers__init : Fun K "__init__" "Numbers.__init__" s_Numbers__init f_Numbers__init fd_Numbers__init
  b_Numbers__init : Binds K fd_Numbers__init ["self"] []
  M_Numbers : Mk K C_Numbers f_Numbers__init
  f_Numbers__eq : Addr
  fd_Numbers__eq : FuncData
  F_Numbers__eq : Fun K "__eq__" "Numbers.__eq__" s_Numbers__eq f_Numbers__eq fd_Numbers__eq
  b_Numbers__eq : Binds K fd_Numbers__eq ["self", "other"] []
  m_Numbers__eq : Meth K C_Numbers "__eq__" f_Numbers__eq
  f_law_hand : Addr
  fd_law_hand : FuncData
  F_law_hand : Fun K "_law_hand" "_law_hand" s_law_hand f_law_hand fd_law_hand
  b_law_hand : Binds K fd_law_hand ["script"] []
  g_law_hand : mg "_law_hand" = some (.ref f_law_hand)
  f_law_draw : Addr
  fd_law_draw : FuncData
  F_law_draw : Fun K "_law_draw" "_law_draw" s_law_draw f_law_draw fd_law_draw
  b_law_draw : Binds K fd_law_draw ["hand", "many"] []
  g_law_draw : mg "_law_draw" = some (.ref f_law_draw)
  f_law_chain : Addr
  fd_law_chain : FuncData
  F_law_chain : Fun K "_law_chain" "_law_chain" s_law_chain f_law_chain fd_law_chain
  b_law_chain : Binds K fd_law_chain ["products"] []
  g_law_chain : mg "_law_chain" = some (.ref f_law_chain)
  f_law_products : Addr
  fd_law_products : FuncData
  F_law_products : Fun K "_law_products" "_law_products" s_law_products f_law_products fd_law_products
  b_law_products : Binds K fd_law_products ["hand"] []
  g_law_products : mg "_law_products" = some (.ref f_law_products)
  f_law_monoid : Addr
  fd_law_monoid : FuncData
  F_law_monoid : Fun K "_law_monoid" "_law_monoid" s_law_monoid f_law_monoid fd_law_monoid
  b_law_monoid : Binds K fd_law_monoid ["hand"] []
  g_law_monoid : mg "_law_monoid" = some (.ref f_law_monoid)
  f_law_lot : Addr
  fd_law_lot : FuncData
  F_law_lot : Fun K "_law_lot" "_law_lot" s_law_lot f_law_lot fd_law_lot
  b_law_lot : Binds K fd_law_lot ["products", "one", "other"] []
  g_law_lot : mg "_law_lot" = some (.ref f_law_lot)
  f_law_lots : Addr
  fd_law_lots : FuncData
  F_law_lots : Fun K "_law_lots" "_law_lots" s_law_lots f_law_lots fd_law_lots
  b_law_lots : Binds K fd_law_lots ["products", "one"] []
  g_law_lots : mg "_law_lots" = some (.ref f_law_lots)
  f_law_paired : Addr
  fd_law_paired : FuncData
  F_law_paired : Fun K "_law_paired" "_law_paired" s_law_paired f_law_paired fd_law_paired
  b_law_paired : Binds K fd_law_paired ["one", "other"] []
  g_law_paired : mg "_law_paired" = some (.ref f_law_paired)
  f_law_beside : Addr
  fd_law_beside : FuncData
  F_law_beside : Fun K "_law_beside" "_law_beside" s_law_beside f_law_beside fd_law_beside
  b_law_beside : Binds K fd_law_beside ["one", "other"] []
  g_law_beside : mg "_law_beside" = some (.ref f_law_beside)
  f_law_turned : Addr
  fd_law_turned : FuncData
  F_law_turned : Fun K "_law_turned" "_law_turned" s_law_turned f_law_turned fd_law_turned
  b_law_turned : Binds K fd_law_turned ["told"] []
  g_law_turned : mg "_law_turned" = some (.ref f_law_turned)
  f_law_order : Addr
  fd_law_order : FuncData
  F_law_order : Fun K "_law_order" "_law_order" s_law_order f_law_order fd_law_order
  b_law_order : Binds K fd_law_order ["hand", "many"] []
  g_law_order : mg "_law_order" = some (.ref f_law_order)
  f_law_renamed : Addr
  fd_law_renamed : FuncData
  F_law_renamed : Fun K "_law_renamed" "_law_renamed" s_law_renamed f_law_renamed fd_law_renamed
  b_law_renamed : Binds K fd_law_renamed ["told", "order"] []
  g_law_renamed : mg "_law_renamed" = some (.ref f_law_renamed)
  f_law_made : Addr
  fd_law_made : FuncData
  F_law_made : Fun K "_law_made" "_law_made" s_law_made f_law_made fd_law_made
  b_law_made : Binds K fd_law_made ["hand"] []
  g_law_made : mg "_law_made" = some (.ref f_law_made)
  f_law_rows : Addr
  fd_law_rows : FuncData
  F_law_rows : Fun K "_law_rows" "_law_rows" s_law_rows f_law_rows fd_law_rows
  b_law_rows : Binds K fd_law_rows ["rows"] []
  g_law_rows : mg "_law_rows" = some (.ref f_law_rows)
  f_law_is_told : Addr
  fd_law_is_told : FuncData
  F_law_is_told : Fun K "_law_is_told" "_law_is_told" s_law_is_told f_law_is_told fd_law_is_told
  b_law_is_told : Binds K fd_law_is_told ["reckoning", "told"] []
  g_law_is_told : mg "_law_is_told" = some (.ref f_law_is_told)
  f_law_small : Addr
  fd_law_small : FuncData
  F_law_small : Fun K "_law_small" "_law_small" s_law_small f_law_small fd_law_small
  b_law_small : Binds K fd_law_small ["hand"] []
  g_law_small : mg "_law_small" = some (.ref f_law_small)
  f_law_asked : Addr
  fd_law_asked : FuncData
  F_law_asked : Fun K "_law_asked" "_law_asked" s_law_asked f_law_asked fd_law_asked
  b_law_asked : Binds K fd_law_asked ["kind", "one", "other"] []
  g_law_asked : mg "_law_asked" = some (.ref f_law_asked)
  f_law_kept : Addr
  fd_law_kept : FuncData
  F_law_kept : Fun K "_law_kept" "_law_kept" s_law_kept f_law_kept fd_law_kept
  b_law_kept : Binds K fd_law_kept ["told"] []
  g_law_kept : mg "_law_kept" = some (.ref f_law_kept)
  f_law : Addr
  fd_law : FuncData
  F_law : Fun K "law" "law" s_law f_law fd_law
  b_law : Binds K fd_law ["script"] []
  g_law : mg "law" = some (.ref f_law)
  n_abs : mg "abs" = none
  n_all : mg "all" = none
  n_bool : mg "bool" = none
  n_int : mg "int" = none
  n_isinstance : mg "isinstance" = none
  n_len : mg "len" = none
  n_list : mg "list" = none
  n_max : mg "max" = none
  n_min : mg "min" = none
  n_range : mg "range" = none
  n_tuple : mg "tuple" = none
  n_zip : mg "zip" = none
  k_FEWEST_WORTHS : PySem.Tok
  g_FEWEST_WORTHS : mg "FEWEST_WORTHS" = some (.int 2 k_FEWEST_WORTHS)
  k_MOST_WORTHS : PySem.Tok
  g_MOST_WORTHS : mg "MOST_WORTHS" = some (.int 16 k_MOST_WORTHS)
  hnO : PySem.W.specialIn K (.builtin "object.__class__") "__get__" = some (some (.builtin "getset_descriptor.__get__"))
  htO : PySem.W.takesIn K (.builtin "object.__class__") = some true
  ha_Reckoning : PySem.W.findIn K (.ref C_Reckoning) "__class__" = some (some (.builtin "object.__class__"))
  hm_Reckoning : PySem.W.mroIn K C_Reckoning (.type "object") = some true
  ha_Lengths : PySem.W.findIn K (.ref C_Lengths) "__class__" = some (some (.builtin "object.__class__"))
  hm_Lengths : PySem.W.mroIn K C_Lengths (.type "object") = some true
  ha_Ratio : PySem.W.findIn K (.ref C_Ratio) "__class__" = some (some (.builtin "object.__class__"))
  hm_Ratio : PySem.W.mroIn K C_Ratio (.type "object") = some true
  ha_Numbers : PySem.W.findIn K (.ref C_Numbers) "__class__" = some (some (.builtin "object.__class__"))
  hm_Numbers : PySem.W.mroIn K C_Numbers (.type "object") = some true
  tI : PySem.W.typeIn K (.ref f_WayError__init) = some (.type "function")
  kI_Reckoning : PySem.W.kitOne K (.ref C_Reckoning) (.type "int") = some false
  kB_Reckoning : PySem.W.kitOne K (.ref C_Reckoning) (.type "bool") = some false
  C_WayError : Addr
  g_WayError : mg "WayError" = some (.ref C_WayError)
  ne_Reckoning : PySem.W.findIn K (.ref C_Reckoning) "__ne__" = some (some (.builtin "object.__ne__"))
  kRR : PySem.W.kitOne K (.ref C_Reckoning) (.ref C_Reckoning) = some true
  nfR : PySem.W.notFirst K C_Reckoning (.ref C_Reckoning) = true
  C_BadReckoning : Addr
  g_BadReckoning : mg "BadReckoning" = some (.ref C_BadReckoning)
  oex_BadReckoning : OexC K C_BadReckoning
  i_BadReckoning : PySem.W.findIn K (.ref C_BadReckoning) "__init__" = some (some (.ref f_WayError__init))
  v_BadReckoning : PySem.W.findIn K (.ref C_BadReckoning) "value" = some none
  xf_BadReckoning : XfC K C_BadReckoning
  exI_BadReckoning : ExcC K C_BadReckoning
  exm_BadReckoning : PySem.W.exmOne K (.ref C_BadReckoning) (.ref C_BadReckoning) = some true
  exW_BadReckoning : PySem.W.exmOne K (.ref C_BadReckoning) (.ref C_WayError) = some true
  kE_BadReckoning : PySem.W.kitOne K (.ref C_BadReckoning) (.ref C_BadReckoning) = some true
  C_BadWorth : Addr
  g_BadWorth : mg "BadWorth" = some (.ref C_BadWorth)
  oex_BadWorth : OexC K C_BadWorth
  i_BadWorth : PySem.W.findIn K (.ref C_BadWorth) "__init__" = some (some (.ref f_WayError__init))
  v_BadWorth : PySem.W.findIn K (.ref C_BadWorth) "value" = some none
  xf_BadWorth : XfC K C_BadWorth
  exI_BadWorth : ExcC K C_BadWorth
  exm_BadWorth : PySem.W.exmOne K (.ref C_BadWorth) (.ref C_BadWorth) = some true
  exW_BadWorth : PySem.W.exmOne K (.ref C_BadWorth) (.ref C_WayError) = some true
  kE_BadWorth : PySem.W.kitOne K (.ref C_BadWorth) (.ref C_BadWorth) = some true
  C_BadNumber : Addr
  g_BadNumber : mg "BadNumber" = some (.ref C_BadNumber)
  oex_BadNumber : OexC K C_BadNumber
  i_BadNumber : PySem.W.findIn K (.ref C_BadNumber) "__init__" = some (some (.ref f_WayError__init))
  v_BadNumber : PySem.W.findIn K (.ref C_BadNumber) "value" = some none
  xf_BadNumber : XfC K C_BadNumber
  exI_BadNumber : ExcC K C_BadNumber
  exm_BadNumber : PySem.W.exmOne K (.ref C_BadNumber) (.ref C_BadNumber) = some true
  exW_BadNumber : PySem.W.exmOne K (.ref C_BadNumber) (.ref C_WayError) = some true
  kE_BadNumber : PySem.W.kitOne K (.ref C_BadNumber) (.ref C_BadNumber) = some true
  C_TooMany : Addr
  g_TooMany : mg "TooMany" = some (.ref C_TooMany)
  oex_TooMany : OexC K C_TooMany
  i_TooMany : PySem.W.findIn K (.ref C_TooMany) "__init__" = some (some (.ref f_TooMany__init))
  v_TooMany : PySem.W.findIn K (.ref C_TooMany) "value" = some none
  xf_TooMany : XfC K C_TooMany
  exI_TooMany : ExcC K C_TooMany
  exm_TooMany : PySem.W.exmOne K (.ref C_TooMany) (.ref C_TooMany) = some true
  exW_TooMany : PySem.W.exmOne K (.ref C_TooMany) (.ref C_WayError) = some true
  kE_TooMany : PySem.W.kitOne K (.ref C_TooMany) (.ref C_TooMany) = some true
  tI_TooMany : PySem.W.typeIn K (.ref f_TooMany__init) = some (.type "function")
  c_WE : OQ.CDef K C_WayError f_WayError__init "__init__"
  x_TB : PySem.W.exmOne K (.ref C_TooMany) (.ref C_BadReckoning) = some false
  kT_Reckoning : ∀ t : String, t ∈ ["NoneType", "int", "bool", "str", "list", "tuple", "dict"] → PySem.W.kitOne K (.type t) (.ref C_Reckoning) = some false
  kP_Lengths_Reckoning : PySem.W.kitOne K (.ref C_Lengths) (.ref C_Reckoning) = some false
  kP_Numbers_Reckoning : PySem.W.kitOne K (.ref C_Numbers) (.ref C_Reckoning) = some false
  ne_Lengths : PySem.W.findIn K (.ref C_Lengths) "__ne__" = some (some (.builtin "object.__ne__"))
  kS_Lengths : PySem.W.kitOne K (.ref C_Lengths) (.ref C_Lengths) = some true
  kB_Lengths : PySem.W.kitOne K (.ref C_Lengths) (.type "bool") = some false
  nf_Lengths : PySem.W.notFirst K C_Lengths (.ref C_Lengths) = true
  ne_Numbers : PySem.W.findIn K (.ref C_Numbers) "__ne__" = some (some (.builtin "object.__ne__"))
  kS_Numbers : PySem.W.kitOne K (.ref C_Numbers) (.ref C_Numbers) = some true
  kB_Numbers : PySem.W.kitOne K (.ref C_Numbers) (.type "bool") = some false
  nf_Numbers : PySem.W.notFirst K C_Numbers (.ref C_Numbers) = true
  g_gcd : mg "gcd" = some (.builtin "math.gcd")
/-! ### the head -/
def faH0 : List He.Fa := [.glo "WayError", .glo "BadReckoning", .glo "BadWorth", .glo "BadNumber", .glo "TooMany", .glo "Reckoning", .glo "Lengths", .glo "Ratio", .glo "Numbers", .glo "is_integer", .glo "is_row", .glo "first_fault", .glo "size_fault", .glo "is_square", .glo "is_side", .glo "is_below", .glo "none_fault", .glo "one_fault", .glo "idle_fault", .glo "swap_fault", .glo "grouping_fault", .glo "over_fault", .glo "same_fault", .glo "check_told", .glo "turned", .glo "beside", .glo "side_by_side", .glo "is_number", .glo "_law_hand", .glo "_law_draw"]
def faH1 : List He.Fa := [.glo "_law_chain", .glo "_law_products", .glo "_law_monoid", .glo "_law_lot", .glo "_law_lots", .glo "_law_paired", .glo "_law_beside", .glo "_law_turned", .glo "_law_order", .glo "_law_renamed", .glo "_law_made", .glo "_law_rows", .glo "_law_is_told", .glo "_law_small", .glo "_law_asked", .glo "_law_kept", .glo "law", .free "abs", .free "all", .free "bool", .free "int", .free "isinstance", .free "len", .free "list", .free "max", .free "min", .free "range", .free "tuple", .free "zip", .int "FEWEST_WORTHS" 2]
def faH2 : List He.Fa := [.int "MOST_WORTHS" 16, .cls "Reckoning", .cls "Lengths", .cls "Ratio", .cls "Numbers", .noat "Reckoning" "joins", .noat "Reckoning" "products", .noat "Reckoning" "none", .noat "Reckoning" "one", .noat "Reckoning" "_meets", .noat "Reckoning" "_lefts", .noat "Reckoning" "_rights", .noat "Lengths" "none", .noat "Lengths" "one", .noat "Ratio" "top", .noat "Ratio" "bottom", .noat "Numbers" "none", .noat "Numbers" "one", .meth "Reckoning" "__eq__", .meth "Reckoning" "_joined", .meth "Reckoning" "_meet", .meth "Reckoning" "_left", .meth "Reckoning" "_right", .meth "Lengths" "__eq__", .meth "Numbers" "__eq__", .mkr "Reckoning", .mkr "Lengths", .mkr "Ratio", .mkr "Numbers"]
def faH : List He.Fa := faH0 ++ faH1 ++ faH2
def dH_WayError__init : He.DefD := ⟨("WayError", some "__init__"), "__init__", "WayError.__init__", defArgs s_WayError__init, defBody s_WayError__init, defScope s_WayError__init, [], []⟩
def dH_TooMany__init : He.DefD := ⟨("TooMany", some "__init__"), "__init__", "TooMany.__init__", defArgs s_TooMany__init, defBody s_TooMany__init, defScope s_TooMany__init, [], []⟩
def dH_is_integer : He.DefD := ⟨("is_integer", none), "is_integer", "is_integer", defArgs s_is_integer, defBody s_is_integer, defScope s_is_integer, [], []⟩
def dH_is_row : He.DefD := ⟨("is_row", none), "is_row", "is_row", defArgs s_is_row, defBody s_is_row, defScope s_is_row, [], []⟩
def dH_first_fault : He.DefD := ⟨("first_fault", none), "first_fault", "first_fault", defArgs s_first_fault, defBody s_first_fault, defScope s_first_fault, [], []⟩
def dH_size_fault : He.DefD := ⟨("size_fault", none), "size_fault", "size_fault", defArgs s_size_fault, defBody s_size_fault, defScope s_size_fault, [], []⟩
def dH_is_square : He.DefD := ⟨("is_square", none), "is_square", "is_square", defArgs s_is_square, defBody s_is_square, defScope s_is_square, [], []⟩
def dH_is_side : He.DefD := ⟨("is_side", none), "is_side", "is_side", defArgs s_is_side, defBody s_is_side, defScope s_is_side, [], []⟩
def dH_is_below : He.DefD := ⟨("is_below", none), "is_below", "is_below", defArgs s_is_below, defBody s_is_below, defScope s_is_below, [], []⟩
def dH_none_fault : He.DefD := ⟨("none_fault", none), "none_fault", "none_fault", defArgs s_none_fault, defBody s_none_fault, defScope s_none_fault, [], []⟩
def dH_one_fault : He.DefD := ⟨("one_fault", none), "one_fault", "one_fault", defArgs s_one_fault, defBody s_one_fault, defScope s_one_fault, [], []⟩
def dH_idle_fault : He.DefD := ⟨("idle_fault", none), "idle_fault", "idle_fault", defArgs s_idle_fault, defBody s_idle_fault, defScope s_idle_fault, [], []⟩
def dH_swap_fault : He.DefD := ⟨("swap_fault", none), "swap_fault", "swap_fault", defArgs s_swap_fault, defBody s_swap_fault, defScope s_swap_fault, [], []⟩
def dH_grouping_fault : He.DefD := ⟨("grouping_fault", none), "grouping_fault", "grouping_fault", defArgs s_grouping_fault, defBody s_grouping_fault, defScope s_grouping_fault, [], []⟩
def dH_over_fault : He.DefD := ⟨("over_fault", none), "over_fault", "over_fault", defArgs s_over_fault, defBody s_over_fault, defScope s_over_fault, [], []⟩
def dH_same_fault : He.DefD := ⟨("same_fault", none), "same_fault", "same_fault", defArgs s_same_fault, defBody s_same_fault, defScope s_same_fault, [], []⟩
def dH_Reckoning__init : He.DefD := ⟨("Reckoning", some "__init__"), "__init__", "Reckoning.__init__", defArgs s_Reckoning__init, defBody s_Reckoning__init, defScope s_Reckoning__init, [], []⟩
def dH_Reckoning__eq : He.DefD := ⟨("Reckoning", some "__eq__"), "__eq__", "Reckoning.__eq__", defArgs s_Reckoning__eq, defBody s_Reckoning__eq, defScope s_Reckoning__eq, [], []⟩
def dH_Reckoning_Ujoined : He.DefD := ⟨("Reckoning", some "_joined"), "_joined", "Reckoning._joined", defArgs s_Reckoning_Ujoined, defBody s_Reckoning_Ujoined, defScope s_Reckoning_Ujoined, [], []⟩
def dH_Reckoning_Umeet : He.DefD := ⟨("Reckoning", some "_meet"), "_meet", "Reckoning._meet", defArgs s_Reckoning_Umeet, defBody s_Reckoning_Umeet, defScope s_Reckoning_Umeet, [], []⟩
def dH_Reckoning_Uleft : He.DefD := ⟨("Reckoning", some "_left"), "_left", "Reckoning._left", defArgs s_Reckoning_Uleft, defBody s_Reckoning_Uleft, defScope s_Reckoning_Uleft, [], []⟩
def dH_Reckoning_Uright : He.DefD := ⟨("Reckoning", some "_right"), "_right", "Reckoning._right", defArgs s_Reckoning_Uright, defBody s_Reckoning_Uright, defScope s_Reckoning_Uright, [], []⟩
def dH_check_told : He.DefD := ⟨("check_told", none), "check_told", "check_told", defArgs s_check_told, defBody s_check_told, defScope s_check_told, [], []⟩
def dH_turned : He.DefD := ⟨("turned", none), "turned", "turned", defArgs s_turned, defBody s_turned, defScope s_turned, [], []⟩
def dH_beside : He.DefD := ⟨("beside", none), "beside", "beside", defArgs s_beside, defBody s_beside, defScope s_beside, [], []⟩
def dH_side_by_side : He.DefD := ⟨("side_by_side", none), "side_by_side", "side_by_side", defArgs s_side_by_side, defBody s_side_by_side, defScope s_side_by_side, [], []⟩
def dH_Lengths__init : He.DefD := ⟨("Lengths", some "__init__"), "__init__", "Lengths.__init__", defArgs s_Lengths__init, defBody s_Lengths__init, defScope s_Lengths__init, [], []⟩
def dH_Lengths__eq : He.DefD := ⟨("Lengths", some "__eq__"), "__eq__", "Lengths.__eq__", defArgs s_Lengths__eq, defBody s_Lengths__eq, defScope s_Lengths__eq, [], []⟩
def dH_Ratio__init : He.DefD := ⟨("Ratio", some "__init__"), "__init__", "Ratio.__init__", defArgs s_Ratio__init, defBody s_Ratio__init, defScope s_Ratio__init, [.int 1], []⟩
def dH_is_number : He.DefD := ⟨("is_number", none), "is_number", "is_number", defArgs s_is_number, defBody s_is_number, defScope s_is_number, [], []⟩
def dH_Numbers__init : He.DefD := ⟨("Numbers", some "__init__"), "__init__", "Numbers.__init__", defArgs s_Numbers__init, defBody s_Numbers__init, defScope s_Numbers__init, [], []⟩
def dH_Numbers__eq : He.DefD := ⟨("Numbers", some "__eq__"), "__eq__", "Numbers.__eq__", defArgs s_Numbers__eq, defBody s_Numbers__eq, defScope s_Numbers__eq, [], []⟩
def dH_law_hand : He.DefD := ⟨("_law_hand", none), "_law_hand", "_law_hand", defArgs s_law_hand, defBody s_law_hand, defScope s_law_hand, [], []⟩
def dH_law_draw : He.DefD := ⟨("_law_draw", none), "_law_draw", "_law_draw", defArgs s_law_draw, defBody s_law_draw, defScope s_law_draw, [], []⟩
def dH_law_chain : He.DefD := ⟨("_law_chain", none), "_law_chain", "_law_chain", defArgs s_law_chain, defBody s_law_chain, defScope s_law_chain, [], []⟩
def dH_law_products : He.DefD := ⟨("_law_products", none), "_law_products", "_law_products", defArgs s_law_products, defBody s_law_products, defScope s_law_products, [], []⟩
def dH_law_monoid : He.DefD := ⟨("_law_monoid", none), "_law_monoid", "_law_monoid", defArgs s_law_monoid, defBody s_law_monoid, defScope s_law_monoid, [], []⟩
def dH_law_lot : He.DefD := ⟨("_law_lot", none), "_law_lot", "_law_lot", defArgs s_law_lot, defBody s_law_lot, defScope s_law_lot, [], []⟩
def dH_law_lots : He.DefD := ⟨("_law_lots", none), "_law_lots", "_law_lots", defArgs s_law_lots, defBody s_law_lots, defScope s_law_lots, [], []⟩
def dH_law_paired : He.DefD := ⟨("_law_paired", none), "_law_paired", "_law_paired", defArgs s_law_paired, defBody s_law_paired, defScope s_law_paired, [], []⟩
def dH_law_beside : He.DefD := ⟨("_law_beside", none), "_law_beside", "_law_beside", defArgs s_law_beside, defBody s_law_beside, defScope s_law_beside, [], []⟩
def dH_law_turned : He.DefD := ⟨("_law_turned", none), "_law_turned", "_law_turned", defArgs s_law_turned, defBody s_law_turned, defScope s_law_turned, [], []⟩
def dH_law_order : He.DefD := ⟨("_law_order", none), "_law_order", "_law_order", defArgs s_law_order, defBody s_law_order, defScope s_law_order, [], []⟩
def dH_law_renamed : He.DefD := ⟨("_law_renamed", none), "_law_renamed", "_law_renamed", defArgs s_law_renamed, defBody s_law_renamed, defScope s_law_renamed, [], []⟩
def dH_law_made : He.DefD := ⟨("_law_made", none), "_law_made", "_law_made", defArgs s_law_made, defBody s_law_made, defScope s_law_made, [], []⟩
def dH_law_rows : He.DefD := ⟨("_law_rows", none), "_law_rows", "_law_rows", defArgs s_law_rows, defBody s_law_rows, defScope s_law_rows, [], []⟩
def dH_law_is_told : He.DefD := ⟨("_law_is_told", none), "_law_is_told", "_law_is_told", defArgs s_law_is_told, defBody s_law_is_told, defScope s_law_is_told, [], []⟩
def dH_law_small : He.DefD := ⟨("_law_small", none), "_law_small", "_law_small", defArgs s_law_small, defBody s_law_small, defScope s_law_small, [], []⟩
def dH_law_asked : He.DefD := ⟨("_law_asked", none), "_law_asked", "_law_asked", defArgs s_law_asked, defBody s_law_asked, defScope s_law_asked, [], []⟩
def dH_law_kept : He.DefD := ⟨("_law_kept", none), "_law_kept", "_law_kept", defArgs s_law_kept, defBody s_law_kept, defScope s_law_kept, [], []⟩
def dH_law : He.DefD := ⟨("law", none), "law", "law", defArgs s_law, defBody s_law, defScope s_law, [], []⟩
def fnH0 : List He.DefD := [dH_WayError__init, dH_TooMany__init, dH_is_integer, dH_is_row, dH_first_fault, dH_size_fault, dH_is_square, dH_is_side, dH_is_below, dH_none_fault, dH_one_fault, dH_idle_fault, dH_swap_fault, dH_grouping_fault, dH_over_fault, dH_same_fault, dH_Reckoning__init, dH_Reckoning__eq, dH_Reckoning_Ujoined, dH_Reckoning_Umeet, dH_Reckoning_Uleft, dH_Reckoning_Uright, dH_check_told, dH_turned, dH_beside]
def fnH1 : List He.DefD := [dH_side_by_side, dH_Lengths__init, dH_Lengths__eq, dH_Ratio__init, dH_is_number, dH_Numbers__init, dH_Numbers__eq, dH_law_hand, dH_law_draw, dH_law_chain, dH_law_products, dH_law_monoid, dH_law_lot, dH_law_lots, dH_law_paired, dH_law_beside, dH_law_turned, dH_law_order, dH_law_renamed, dH_law_made, dH_law_rows, dH_law_is_told, dH_law_small, dH_law_asked, dH_law_kept]
def fnH2 : List He.DefD := [dH_law]
def fnH : List He.DefD := fnH0 ++ fnH1 ++ fnH2
def x_hnO (K : PySem.W.Frag) : Bool := OQ.isB (PySem.W.specialIn K (.builtin "object.__class__") "__get__") (some (.builtin "getset_descriptor.__get__"))
def x_htO (K : PySem.W.Frag) : Bool := decide (PySem.W.takesIn K (.builtin "object.__class__") = some true)
def x_haReckoning (K : PySem.W.Frag) : Bool := OQ.isB (PySem.W.findIn K (.ref (He.ga K "Reckoning")) "__class__") (some (.builtin "object.__class__"))
def x_hmReckoning (K : PySem.W.Frag) : Bool := decide (PySem.W.mroIn K (He.ga K "Reckoning") (.type "object") = some true)
def x_haLengths (K : PySem.W.Frag) : Bool := OQ.isB (PySem.W.findIn K (.ref (He.ga K "Lengths")) "__class__") (some (.builtin "object.__class__"))
def x_hmLengths (K : PySem.W.Frag) : Bool := decide (PySem.W.mroIn K (He.ga K "Lengths") (.type "object") = some true)
def x_haRatio (K : PySem.W.Frag) : Bool := OQ.isB (PySem.W.findIn K (.ref (He.ga K "Ratio")) "__class__") (some (.builtin "object.__class__"))
def x_hmRatio (K : PySem.W.Frag) : Bool := decide (PySem.W.mroIn K (He.ga K "Ratio") (.type "object") = some true)
def x_haNumbers (K : PySem.W.Frag) : Bool := OQ.isB (PySem.W.findIn K (.ref (He.ga K "Numbers")) "__class__") (some (.builtin "object.__class__"))
def x_hmNumbers (K : PySem.W.Frag) : Bool := decide (PySem.W.mroIn K (He.ga K "Numbers") (.type "object") = some true)
def x_tI (K : PySem.W.Frag) : Bool := decide (PySem.W.typeIn K (.ref (He.fAd K ("WayError", some "__init__"))) = some (.type "function"))
def x_kintRe (K : PySem.W.Frag) : Bool := decide (PySem.W.kitOne K (.ref (He.ga K "Reckoning")) (.type "int") = some false)
def x_kboolRe (K : PySem.W.Frag) : Bool := decide (PySem.W.kitOne K (.ref (He.ga K "Reckoning")) (.type "bool") = some false)
def x_icWE (K : PySem.W.Frag) : Bool := PySem.W.isClsIn K (He.ga K "WayError")
def x_tyWE (K : PySem.W.Frag) : Bool := decide (PySem.W.typeIn K (.ref (He.ga K "WayError")) = some (.type "type"))
def x_exWE (K : PySem.W.Frag) : Bool := decide (PySem.W.subIn K (.ref (He.ga K "WayError")) (.type "BaseException") = some true)
def x_neRe (K : PySem.W.Frag) : Bool := OQ.isB (PySem.W.findIn K (.ref (He.ga K "Reckoning")) "__ne__") (some (.builtin "object.__ne__"))
def x_eBadReckoning (K : PySem.W.Frag) : Bool := OQ.erB K (He.ga K "WayError") (He.fAd K ("WayError", some "__init__")) (He.ga K "BadReckoning")
def x_eBadWorth (K : PySem.W.Frag) : Bool := OQ.erB K (He.ga K "WayError") (He.fAd K ("WayError", some "__init__")) (He.ga K "BadWorth")
def x_eBadNumber (K : PySem.W.Frag) : Bool := OQ.erB K (He.ga K "WayError") (He.fAd K ("WayError", some "__init__")) (He.ga K "BadNumber")
def x_eTooMany (K : PySem.W.Frag) : Bool := OQ.erB K (He.ga K "WayError") (He.fAd K ("TooMany", some "__init__")) (He.ga K "TooMany")
def x_tI2 (K : PySem.W.Frag) : Bool := decide (PySem.W.typeIn K (.ref (He.fAd K ("TooMany", some "__init__"))) = some (.type "function"))
def x_rdWE (K : PySem.W.Frag) : Bool := PySem.W.readsIn K (He.ga K "WayError") (.type "type")
def x_gaWE (K : PySem.W.Frag) : Bool := OQ.isB (PySem.W.specialIn K (.ref (He.ga K "WayError")) "__getattribute__") (some (.builtin "type.__getattribute__"))
def x_vaWE (K : PySem.W.Frag) : Bool := (match PySem.W.findCls K (.ref (He.ga K "WayError")) (.type "type") "__init__" with | some (.val v) => decide (v = .ref (He.fAd K ("WayError", some "__init__"))) | _ => false)
def x_xTB (K : PySem.W.Frag) : Bool := decide (PySem.W.exmOne K (.ref (He.ga K "TooMany")) (.ref (He.ga K "BadReckoning")) = some false)
def x_kTRe (K : PySem.W.Frag) : Bool := (["NoneType", "int", "bool", "str", "list", "tuple", "dict"] : List String).all fun t => decide (PySem.W.kitOne K (.type t) (.ref (He.ga K "Reckoning")) = some false)
def x_kPLR (K : PySem.W.Frag) : Bool := decide (PySem.W.kitOne K (.ref (He.ga K "Lengths")) (.ref (He.ga K "Reckoning")) = some false)
def x_kPNR (K : PySem.W.Frag) : Bool := decide (PySem.W.kitOne K (.ref (He.ga K "Numbers")) (.ref (He.ga K "Reckoning")) = some false)
def x_neLe (K : PySem.W.Frag) : Bool := OQ.isB (PySem.W.findIn K (.ref (He.ga K "Lengths")) "__ne__") (some (.builtin "object.__ne__"))
def x_kSLe (K : PySem.W.Frag) : Bool := decide (PySem.W.kitOne K (.ref (He.ga K "Lengths")) (.ref (He.ga K "Lengths")) = some true)
def x_kBLe (K : PySem.W.Frag) : Bool := decide (PySem.W.kitOne K (.ref (He.ga K "Lengths")) (.type "bool") = some false)
def x_neNu (K : PySem.W.Frag) : Bool := OQ.isB (PySem.W.findIn K (.ref (He.ga K "Numbers")) "__ne__") (some (.builtin "object.__ne__"))
def x_kSNu (K : PySem.W.Frag) : Bool := decide (PySem.W.kitOne K (.ref (He.ga K "Numbers")) (.ref (He.ga K "Numbers")) = some true)
def x_kBNu (K : PySem.W.Frag) : Bool := decide (PySem.W.kitOne K (.ref (He.ga K "Numbers")) (.type "bool") = some false)
def x_gcd (K : PySem.W.Frag) : Bool := OQ.isB (PySem.W.nsIn K mainGlobals "gcd") (some (.builtin "math.gcd"))
def exH (K : PySem.W.Frag) : Bool := x_hnO K && (x_htO K && (x_haReckoning K && (x_hmReckoning K && (x_haLengths K && (x_hmLengths K && (x_haRatio K && (x_hmRatio K && (x_haNumbers K && (x_hmNumbers K && (x_tI K && (x_kintRe K && (x_kboolRe K && (x_icWE K && (x_tyWE K && (x_exWE K && (x_neRe K && (x_eBadReckoning K && (x_eBadWorth K && (x_eBadNumber K && (x_eTooMany K && (x_tI2 K && (x_rdWE K && (x_gaWE K && (x_vaWE K && (x_xTB K && (x_kTRe K && (x_kPLR K && (x_kPNR K && (x_neLe K && (x_kSLe K && (x_kBLe K && (x_neNu K && (x_kSNu K && (x_kBNu K && (x_gcd K)))))))))))))))))))))))))))))))))))
abbrev hk : PySem.W.Hook := OQ.hookB 5 faH fnH exH
def ob : PySem.W.SharedT → He.AlD × Bool := OQ.obB 5 faH fnH exH

/-! ### the states -/
def looseH0 : List Str := ["_wall", "WayError", "BadReckoning", "BadWorth", "BadNumber", "TooMany", "is_integer", "is_row", "FEWEST_WORTHS", "MOST_WORTHS", "first_fault", "size_fault", "is_square", "is_side", "is_below", "none_fault", "one_fault", "idle_fault", "swap_fault", "grouping_fault", "over_fault", "same_fault", "check_worths", "Reckoning", "check_told", "turned", "beside", "side_by_side", "Lengths", "longer"]
def looseH1 : List Str := ["Ratio", "is_number", "as_ratio", "sum_of", "product_of", "Numbers", "_law_hand", "_law_draw", "_law_chain", "_law_products", "_law_monoid", "_law_lot", "_law_lots", "_law_paired", "_law_beside", "_law_turned", "_law_order", "_law_renamed", "_law_made", "_law_rows", "_law_is_told", "_law_small", "_law_asked", "_law_kept"]
def looseH : List Str := looseH0 ++ looseH1
noncomputable section
namespace HX
open PySem PySem.W PySem.Calls PyProof.Rows HandSHeadRun HG
def ns (x : String) : Str := Str.ofString x
def sv (x : String) (t : Tok) : Value := .str (Str.ofString x) t
def en (P : Params) (x : String) (t : Tok) (v : Value) : DictEntry := ⟨PyData.keyHash P (Str.ofString x), .str (Str.ofString x) t, v⟩
def subS (s : Stmt) (j : Nat) : Stmt := match s with
  | .ClassDef _ _ _ b .. => b.getD j (.Pass ⟨0, 0, 0, 0⟩)
  | _ => .Pass ⟨0, 0, 0, 0⟩
abbrev pp : Program := PySem.Challenge.pw_watchedways_k33_turned_and_beside
def lf : Life := {}
def o0_0 (P : Params) : Obj := ⟨(.type "dict"), none, (.dict ⟨[en P "__name__" 1 (sv "builtins" 160), en P "__doc__" 2 (.builtin "builtins.__doc__:str#opaque"), en P "__package__" 3 (.builtin "builtins.__package__:str#opaque"), en P "__loader__" 4 (.builtin "builtins.__loader__:shared#opaque"), en P "__spec__" 5 (.builtin "builtins.__spec__#opaque"), en P "__build_class__" 6 (.builtin "__build_class__"), en P "__import__" 7 (.builtin "__import__"), en P "abs" 8 (.builtin "abs"), en P "all" 9 (.builtin "all"), en P "any" 10 (.builtin "any"), en P "ascii" 11 (.builtin "ascii"), en P "bin" 12 (.builtin "bin"), en P "breakpoint" 13 (.builtin "breakpoint"), en P "callable" 14 (.builtin "callable"), en P "chr" 15 (.builtin "chr"), en P "compile" 16 (.builtin "compile"), en P "delattr" 17 (.builtin "delattr"), en P "dir" 18 (.builtin "dir"), en P "divmod" 19 (.builtin "divmod"), en P "eval" 20 (.builtin "eval"), en P "exec" 21 (.builtin "exec"), en P "format" 22 (.builtin "format"), en P "getattr" 23 (.builtin "getattr"), en P "globals" 24 (.builtin "globals"), en P "hasattr" 25 (.builtin "hasattr"), en P "hash" 26 (.builtin "hash"), en P "hex" 27 (.builtin "hex"), en P "id" 28 (.builtin "id"), en P "input" 29 (.builtin "input"), en P "isinstance" 30 (.builtin "isinstance"), en P "issubclass" 31 (.builtin "issubclass"), en P "iter" 32 (.builtin "iter"), en P "aiter" 33 (.builtin "aiter"), en P "len" 34 (.builtin "len"), en P "locals" 35 (.builtin "locals"), en P "max" 36 (.builtin "max"), en P "min" 37 (.builtin "min"), en P "next" 38 (.builtin "next"), en P "anext" 39 (.builtin "anext"), en P "oct" 40 (.builtin "oct"), en P "ord" 41 (.builtin "ord"), en P "pow" 42 (.builtin "pow"), en P "print" 43 (.builtin "print"), en P "repr" 44 (.builtin "repr"), en P "round" 45 (.builtin "round"), en P "setattr" 46 (.builtin "setattr"), en P "sorted" 47 (.builtin "sorted"), en P "sum" 48 (.builtin "sum"), en P "vars" 49 (.builtin "vars"), en P "None" 50 .none, en P "Ellipsis" 51 .ellipsis, en P "NotImplemented" 52 .notImplemented, en P "False" 53 (.bool false), en P "True" 54 (.bool true), en P "bool" 55 (.type "bool"), en P "memoryview" 56 (.type "memoryview"), en P "bytearray" 57 (.type "bytearray"), en P "bytes" 58 (.type "bytes"), en P "classmethod" 59 (.type "classmethod"), en P "complex" 60 (.type "complex"), en P "dict" 61 (.type "dict"), en P "enumerate" 62 (.type "enumerate"), en P "filter" 63 (.type "filter"), en P "float" 64 (.type "float"), en P "frozenset" 65 (.type "frozenset"), en P "property" 66 (.type "property"), en P "int" 67 (.type "int"), en P "list" 68 (.type "list"), en P "map" 69 (.type "map"), en P "object" 70 (.type "object"), en P "range" 71 (.type "range"), en P "reversed" 72 (.type "reversed"), en P "set" 73 (.type "set"), en P "slice" 74 (.type "slice"), en P "staticmethod" 75 (.type "staticmethod"), en P "str" 76 (.type "str"), en P "super" 77 (.type "super"), en P "tuple" 78 (.type "tuple"), en P "type" 79 (.type "type"), en P "zip" 80 (.type "zip"), en P "__debug__" 81 (.bool true), en P "BaseException" 82 (.type "BaseException"), en P "BaseExceptionGroup" 83 (.type "BaseExceptionGroup"), en P "Exception" 84 (.type "Exception"), en P "GeneratorExit" 85 (.type "GeneratorExit"), en P "KeyboardInterrupt" 86 (.type "KeyboardInterrupt"), en P "SystemExit" 87 (.type "SystemExit"), en P "ArithmeticError" 88 (.type "ArithmeticError"), en P "AssertionError" 89 (.type "AssertionError"), en P "AttributeError" 90 (.type "AttributeError"), en P "BufferError" 91 (.type "BufferError"), en P "EOFError" 92 (.type "EOFError"), en P "ImportError" 93 (.type "ImportError"), en P "LookupError" 94 (.type "LookupError"), en P "MemoryError" 95 (.type "MemoryError"), en P "NameError" 96 (.type "NameError"), en P "OSError" 97 (.type "OSError"), en P "ReferenceError" 98 (.type "ReferenceError"), en P "RuntimeError" 99 (.type "RuntimeError"), en P "StopAsyncIteration" 100 (.type "StopAsyncIteration"), en P "StopIteration" 101 (.type "StopIteration"), en P "SyntaxError" 102 (.type "SyntaxError"), en P "SystemError" 103 (.type "SystemError"), en P "TypeError" 104 (.type "TypeError"), en P "ValueError" 105 (.type "ValueError"), en P "Warning" 106 (.type "Warning"), en P "FloatingPointError" 107 (.type "FloatingPointError"), en P "OverflowError" 108 (.type "OverflowError"), en P "ZeroDivisionError" 109 (.type "ZeroDivisionError"), en P "BytesWarning" 110 (.type "BytesWarning"), en P "DeprecationWarning" 111 (.type "DeprecationWarning"), en P "EncodingWarning" 112 (.type "EncodingWarning"), en P "FutureWarning" 113 (.type "FutureWarning"), en P "ImportWarning" 114 (.type "ImportWarning"), en P "PendingDeprecationWarning" 115 (.type "PendingDeprecationWarning"), en P "ResourceWarning" 116 (.type "ResourceWarning"), en P "RuntimeWarning" 117 (.type "RuntimeWarning"), en P "SyntaxWarning" 118 (.type "SyntaxWarning"), en P "UnicodeWarning" 119 (.type "UnicodeWarning"), en P "UserWarning" 120 (.type "UserWarning"), en P "BlockingIOError" 121 (.type "BlockingIOError"), en P "ChildProcessError" 122 (.type "ChildProcessError"), en P "ConnectionError" 123 (.type "ConnectionError"), en P "FileExistsError" 124 (.type "FileExistsError"), en P "FileNotFoundError" 125 (.type "FileNotFoundError"), en P "InterruptedError" 126 (.type "InterruptedError"), en P "IsADirectoryError" 127 (.type "IsADirectoryError"), en P "NotADirectoryError" 128 (.type "NotADirectoryError"), en P "PermissionError" 129 (.type "PermissionError"), en P "ProcessLookupError" 130 (.type "ProcessLookupError"), en P "TimeoutError" 131 (.type "TimeoutError"), en P "IndentationError" 132 (.type "IndentationError"), en P "_IncompleteInputError" 133 (.type "_IncompleteInputError"), en P "IndexError" 134 (.type "IndexError"), en P "KeyError" 135 (.type "KeyError"), en P "ModuleNotFoundError" 136 (.type "ModuleNotFoundError"), en P "NotImplementedError" 137 (.type "NotImplementedError"), en P "PythonFinalizationError" 138 (.type "PythonFinalizationError"), en P "RecursionError" 139 (.type "RecursionError"), en P "UnboundLocalError" 140 (.type "UnboundLocalError"), en P "UnicodeError" 141 (.type "UnicodeError"), en P "BrokenPipeError" 142 (.type "BrokenPipeError"), en P "ConnectionAbortedError" 143 (.type "ConnectionAbortedError"), en P "ConnectionRefusedError" 144 (.type "ConnectionRefusedError"), en P "ConnectionResetError" 145 (.type "ConnectionResetError"), en P "TabError" 146 (.type "TabError"), en P "UnicodeDecodeError" 147 (.type "UnicodeDecodeError"), en P "UnicodeEncodeError" 148 (.type "UnicodeEncodeError"), en P "UnicodeTranslateError" 149 (.type "UnicodeTranslateError"), en P "ExceptionGroup" 150 (.type "ExceptionGroup"), en P "EnvironmentError" 151 (.type "OSError"), en P "IOError" 152 (.type "OSError"), en P "open" 153 (.builtin "open"), en P "quit" 154 (.builtin "builtins.quit#opaque"), en P "exit" 155 (.builtin "builtins.exit#opaque"), en P "copyright" 156 (.builtin "builtins.copyright#opaque"), en P "credits" 157 (.builtin "builtins.credits#opaque"), en P "license" 158 (.builtin "builtins.license#opaque"), en P "help" 159 (.builtin "builtins.help#opaque")]⟩ 159), ⟨[]⟩⟩
def o1_0 (P : Params) : Obj := ⟨(.type "dict"), none, (.dict ⟨[en P "builtins" 162 (.ref 4), en P "__main__" 163 (.ref 5), en P "math" 284 (.ref 13)]⟩ 3), ⟨[]⟩⟩
def o2_0 (P : Params) : Obj := ⟨.none, none, (.dict ⟨[en P "import.loaded.math" 185 (.bool true), en P "class._frozen_importlib_external._LoaderBasics" 190 (.ref 16), en P "watched.import" 206 (.ref 20), en P "class._frozen_importlib_external.FileLoader" 207 (.ref 22), en P "class._frozen_importlib_external.ExtensionFileLoader" 228 (.ref 27), en P "class._frozen_importlib.ModuleSpec" 256 (.ref 33), en P "sys.modules.booked-epoch" 285 (.int (3) 0), en P "import.later-laid.math" 361 (.bool true), en P "watched.library" 363 (.ref 38), en P "watched.library-objects" 0 (.str ⟨⟨[13]⟩⟩ 0)]⟩ 10), ⟨[]⟩⟩
def o3_0 (P : Params) : Obj := ⟨(.type "dict"), none, (.dict ⟨[en P "__name__" 165 (sv "__main__" 164), en P "__doc__" 166 .none, en P "__package__" 167 .none, en P "__loader__" 168 (.builtin "__main__.__loader__#opaque"), en P "__spec__" 169 .none, en P "__annotations__" 170 (.ref 6), en P "__builtins__" 171 (.ref 4), en P "__file__" 173 (sv "/claim/cut.py" 172), en P "__cached__" 174 .none, en P "gcd" 369 (.builtin "math.gcd")]⟩ 10), ⟨[]⟩⟩
def o4_0 (P : Params) : Obj := ⟨(.type "module"), (some 0), .plain, ⟨[]⟩⟩
def o5_0 (P : Params) : Obj := ⟨(.type "module"), (some 3), .plain, ⟨[]⟩⟩
def o6_0 (P : Params) : Obj := ⟨(.type "dict"), none, (.dict ⟨[]⟩ 0), ⟨[]⟩⟩
def o7_0 (P : Params) : Obj := ⟨(.type "tuple"), none, (.seq ⟨[]⟩ 0), ⟨[]⟩⟩
def o8_0 (P : Params) : Obj := ⟨.none, none, (.fields ⟨[]⟩), ⟨[]⟩⟩
def o9_0 (P : Params) : Obj := ⟨(.type "code"), none, (.fields ⟨[(sv "<module>" 176), (sv "<module>" 177), (sv "/claim/cut.py" 178), (.int (1) 0), (.int (0) 0), (.int (0) 0), (.int (0) 0), (.int (0) 0), (.ref 7), (.bool false), (.int (175) 0), (.ref 8), .none, .none, .none, .none, (.int (179) 0), (.int (1) 0), (sv "/claim/cut.py" 180)]⟩), ⟨[]⟩⟩
def o10_0 (P : Params) : Obj := ⟨(.type "frame"), none, .plain, ⟨[(some (.ref 9)), (some (.ref 3)), (some (.ref 3)), none, (some (sv "__main__" 164)), none, (some (.ref 0))]⟩⟩
def o11_0 (P : Params) : Obj := ⟨(.type "tuple"), none, (.seq ⟨[(sv "gcd" 182)]⟩ 0), ⟨[]⟩⟩
def o12_0 (P : Params) : Obj := ⟨(.type "dict"), none, (.dict ⟨[en P "__name__" 287 (sv "math" 286), en P "__doc__" 288 (.builtin "off-the-table:math.__doc__:shared#opaque"), en P "__package__" 290 (sv "" 289), en P "__loader__" 291 (.builtin "off-the-table:math.__loader__:shared#opaque"), en P "__spec__" 292 (.builtin "off-the-table:math.__spec__:shared#opaque"), en P "acos" 293 (.builtin "off-the-table:math.acos:shared#opaque"), en P "acosh" 294 (.builtin "off-the-table:math.acosh:shared#opaque"), en P "asin" 295 (.builtin "off-the-table:math.asin:shared#opaque"), en P "asinh" 296 (.builtin "off-the-table:math.asinh:shared#opaque"), en P "atan" 297 (.builtin "off-the-table:math.atan:shared#opaque"), en P "atan2" 298 (.builtin "off-the-table:math.atan2:shared#opaque"), en P "atanh" 299 (.builtin "off-the-table:math.atanh:shared#opaque"), en P "cbrt" 300 (.builtin "off-the-table:math.cbrt:shared#opaque"), en P "ceil" 301 (.builtin "math.ceil"), en P "copysign" 302 (.builtin "math.copysign"), en P "cos" 303 (.builtin "off-the-table:math.cos:shared#opaque"), en P "cosh" 304 (.builtin "off-the-table:math.cosh:shared#opaque"), en P "degrees" 305 (.builtin "math.degrees"), en P "dist" 306 (.builtin "math.dist"), en P "erf" 307 (.builtin "off-the-table:math.erf:shared#opaque"), en P "erfc" 308 (.builtin "off-the-table:math.erfc:shared#opaque"), en P "exp" 309 (.builtin "off-the-table:math.exp:shared#opaque"), en P "exp2" 310 (.builtin "off-the-table:math.exp2:shared#opaque"), en P "expm1" 311 (.builtin "off-the-table:math.expm1:shared#opaque"), en P "fabs" 312 (.builtin "math.fabs"), en P "factorial" 313 (.builtin "math.factorial"), en P "floor" 314 (.builtin "math.floor"), en P "fma" 315 (.builtin "math.fma"), en P "fmod" 316 (.builtin "math.fmod"), en P "frexp" 317 (.builtin "math.frexp"), en P "fsum" 318 (.builtin "math.fsum"), en P "gamma" 319 (.builtin "off-the-table:math.gamma:shared#opaque"), en P "gcd" 320 (.builtin "math.gcd"), en P "hypot" 321 (.builtin "math.hypot"), en P "isclose" 322 (.builtin "math.isclose"), en P "isfinite" 323 (.builtin "math.isfinite"), en P "isinf" 324 (.builtin "math.isinf"), en P "isnan" 325 (.builtin "math.isnan"), en P "isqrt" 326 (.builtin "math.isqrt"), en P "lcm" 327 (.builtin "math.lcm"), en P "ldexp" 328 (.builtin "math.ldexp"), en P "lgamma" 329 (.builtin "off-the-table:math.lgamma:shared#opaque"), en P "log" 330 (.builtin "off-the-table:math.log:shared#opaque"), en P "log1p" 331 (.builtin "off-the-table:math.log1p:shared#opaque"), en P "log10" 332 (.builtin "off-the-table:math.log10:shared#opaque"), en P "log2" 333 (.builtin "off-the-table:math.log2:shared#opaque"), en P "modf" 334 (.builtin "math.modf"), en P "pow" 335 (.builtin "off-the-table:math.pow:shared#opaque"), en P "radians" 336 (.builtin "math.radians"), en P "remainder" 337 (.builtin "math.remainder"), en P "sin" 338 (.builtin "off-the-table:math.sin:shared#opaque"), en P "sinh" 339 (.builtin "off-the-table:math.sinh:shared#opaque"), en P "sqrt" 340 (.builtin "math.sqrt"), en P "tan" 341 (.builtin "off-the-table:math.tan:shared#opaque"), en P "tanh" 342 (.builtin "off-the-table:math.tanh:shared#opaque"), en P "sumprod" 343 (.builtin "math.sumprod"), en P "trunc" 344 (.builtin "math.trunc"), en P "prod" 345 (.builtin "math.prod"), en P "perm" 346 (.builtin "math.perm"), en P "comb" 347 (.builtin "math.comb"), en P "nextafter" 348 (.builtin "math.nextafter"), en P "ulp" 349 (.builtin "math.ulp"), en P "__file__" 350 (.str ⟨⟨[47, 110, 105, 120, 47, 115, 116, 111, 114, 101, 47, 119, 106, 49, 102, 53, 54, 113, 107, 121, 52, 112, 109, 106, 99, 55, 108, 48, 114, 54, 98, 54, 108, 55, 119, 104, 110, 110, 119, 55, 104, 112, 54, 45, 112, 121, 116, 104, 111, 110, 51, 45, 51, 46, 49, 51, 46, 49, 53, 47, 108, 105, 98, 47, 112, 121, 116, 104, 111, 110, 51, 46, 49, 51, 47, 108, 105, 98, 45, 100, 121, 110, 108, 111, 97, 100, 47, 109, 97, 116, 104, 46, 99, 112, 121, 116, 104, 111, 110, 45, 51, 49, 51, 45, 120, 56, 54, 95, 54, 52, 45, 108, 105, 110, 117, 120, 45, 103, 110, 117, 46, 115, 111]⟩⟩ 186), en P "pi" 352 (.float 4614256656552045848 351), en P "e" 354 (.float 4613303445314885481 353), en P "tau" 356 (.float 4618760256179416344 355), en P "inf" 358 (.float 9218868437227405312 357), en P "nan" 360 (.float 9221120237041090560 359)]⟩ 68), ⟨[]⟩⟩
def o13_0 (P : Params) : Obj := ⟨(.type "module"), (some 12), .plain, ⟨[]⟩⟩
def o14_0 (P : Params) : Obj := ⟨(.type "dict"), none, (.dict ⟨[en P "name" 188 (sv "math" 187), en P "path" 189 (.str ⟨⟨[47, 110, 105, 120, 47, 115, 116, 111, 114, 101, 47, 119, 106, 49, 102, 53, 54, 113, 107, 121, 52, 112, 109, 106, 99, 55, 108, 48, 114, 54, 98, 54, 108, 55, 119, 104, 110, 110, 119, 55, 104, 112, 54, 45, 112, 121, 116, 104, 111, 110, 51, 45, 51, 46, 49, 51, 46, 49, 53, 47, 108, 105, 98, 47, 112, 121, 116, 104, 111, 110, 51, 46, 49, 51, 47, 108, 105, 98, 45, 100, 121, 110, 108, 111, 97, 100, 47, 109, 97, 116, 104, 46, 99, 112, 121, 116, 104, 111, 110, 45, 51, 49, 51, 45, 120, 56, 54, 95, 54, 52, 45, 108, 105, 110, 117, 120, 45, 103, 110, 117, 46, 115, 111]⟩⟩ 186)]⟩ 2), ⟨[]⟩⟩
def o15_0 (P : Params) : Obj := ⟨(.type "dict"), none, (.dict ⟨[en P "__module__" 193 (sv "_frozen_importlib_external" 191), en P "__firstlineno__" 194 (.int (1001) 192), en P "__doc__" 195 (.builtin "_frozen_importlib_external._LoaderBasics.__doc__:str#opaque"), en P "is_package" 196 (.builtin "_frozen_importlib_external._LoaderBasics.is_package#opaque"), en P "create_module" 197 (.builtin "_frozen_importlib_external._LoaderBasics.create_module#opaque"), en P "exec_module" 198 (.builtin "_frozen_importlib_external._LoaderBasics.exec_module#opaque"), en P "load_module" 199 (.builtin "_frozen_importlib_external._LoaderBasics.load_module#opaque"), en P "__static_attributes__" 200 (.ref 17), en P "__dict__" 202 (.ref 18), en P "__weakref__" 204 (.ref 19)]⟩ 10), ⟨[]⟩⟩
def o16_0 (P : Params) : Obj := ⟨(.type "type"), none, (.cls ⟨(ns "_LoaderBasics"), [(.type "object")], [(.ref 16), (.type "object")], 15, (ns "_LoaderBasics"), true, [], [(.ref 27)], false, none, false⟩), ⟨[]⟩⟩
def o17_0 (P : Params) : Obj := ⟨(.type "tuple"), none, (.seq ⟨[]⟩ 0), ⟨[]⟩⟩
def o18_0 (P : Params) : Obj := ⟨(.type "getset_descriptor"), none, (.fields ⟨[(sv "__dict__" 201), (.ref 16), (.builtin "function.__dict__"), (.builtin "function.__dict__#set")]⟩), ⟨[]⟩⟩
def o19_0 (P : Params) : Obj := ⟨(.type "getset_descriptor"), none, (.fields ⟨[(sv "__weakref__" 203), (.ref 16), (.builtin "ExceptionGroup.__weakref__"), .none]⟩), ⟨[]⟩⟩
def o20_0 (P : Params) : Obj := ⟨.none, none, (.seq ⟨[(.int (15) 0), (.str ⟨⟨[6, 193, 10, 95, 95, 109, 111, 100, 117, 108, 101, 95, 95, 6, 191, 26, 95, 102, 114, 111, 122, 101, 110, 95, 105, 109, 112, 111, 114, 116, 108, 105, 98, 95, 101, 120, 116, 101, 114, 110, 97, 108, 6, 194, 15, 95, 95, 102, 105, 114, 115, 116, 108, 105, 110, 101, 110, 111, 95, 95, 4, 192, 0, 1001, 6, 195, 7, 95, 95, 100, 111, 99, 95, 95, 9, 59, 95, 102, 114, 111, 122, 101, 110, 95, 105, 109, 112, 111, 114, 116, 108, 105, 98, 95, 101, 120, 116, 101, 114, 110, 97, 108, 46, 95, 76, 111, 97, 100, 101, 114, 66, 97, 115, 105, 99, 115, 46, 95, 95, 100, 111, 99, 95, 95, 58, 115, 116, 114, 35, 111, 112, 97, 113, 117, 101, 6, 196, 10, 105, 115, 95, 112, 97, 99, 107, 97, 103, 101, 9, 58, 95, 102, 114, 111, 122, 101, 110, 95, 105, 109, 112, 111, 114, 116, 108, 105, 98, 95, 101, 120, 116, 101, 114, 110, 97, 108, 46, 95, 76, 111, 97, 100, 101, 114, 66, 97, 115, 105, 99, 115, 46, 105, 115, 95, 112, 97, 99, 107, 97, 103, 101, 35, 111, 112, 97, 113, 117, 101, 6, 197, 13, 99, 114, 101, 97, 116, 101, 95, 109, 111, 100, 117, 108, 101, 9, 61, 95, 102, 114, 111, 122, 101, 110, 95, 105, 109, 112, 111, 114, 116, 108, 105, 98, 95, 101, 120, 116, 101, 114, 110, 97, 108, 46, 95, 76, 111, 97, 100, 101, 114, 66, 97, 115, 105, 99, 115, 46, 99, 114, 101, 97, 116, 101, 95, 109, 111, 100, 117, 108, 101, 35, 111, 112, 97, 113, 117, 101, 6, 198, 11, 101, 120, 101, 99, 95, 109, 111, 100, 117, 108, 101, 9, 59, 95, 102, 114, 111, 122, 101, 110, 95, 105, 109, 112, 111, 114, 116, 108, 105, 98, 95, 101, 120, 116, 101, 114, 110, 97, 108, 46, 95, 76, 111, 97, 100, 101, 114, 66, 97, 115, 105, 99, 115, 46, 101, 120, 101, 99, 95, 109, 111, 100, 117, 108, 101, 35, 111, 112, 97, 113, 117, 101, 6, 199, 11, 108, 111, 97, 100, 95, 109, 111, 100, 117, 108, 101, 9, 59, 95, 102, 114, 111, 122, 101, 110, 95, 105, 109, 112, 111, 114, 116, 108, 105, 98, 95, 101, 120, 116, 101, 114, 110, 97, 108, 46, 95, 76, 111, 97, 100, 101, 114, 66, 97, 115, 105, 99, 115, 46, 108, 111, 97, 100, 95, 109, 111, 100, 117, 108, 101, 35, 111, 112, 97, 113, 117, 101, 6, 200, 21, 95, 95, 115, 116, 97, 116, 105, 99, 95, 97, 116, 116, 114, 105, 98, 117, 116, 101, 115, 95, 95, 4, 0, 0, 17, 6, 202, 8, 95, 95, 100, 105, 99, 116, 95, 95, 4, 0, 0, 18, 6, 204, 11, 95, 95, 119, 101, 97, 107, 114, 101, 102, 95, 95, 4, 0, 0, 19]⟩⟩ 0), (.bool true), (.bool true), (sv "" 205), (.int (21) 0), (.str ⟨⟨[6, 212, 10, 95, 95, 109, 111, 100, 117, 108, 101, 95, 95, 6, 208, 26, 95, 102, 114, 111, 122, 101, 110, 95, 105, 109, 112, 111, 114, 116, 108, 105, 98, 95, 101, 120, 116, 101, 114, 110, 97, 108, 6, 213, 15, 95, 95, 102, 105, 114, 115, 116, 108, 105, 110, 101, 110, 111, 95, 95, 4, 209, 0, 1176, 6, 214, 7, 95, 95, 100, 111, 99, 95, 95, 9, 56, 95, 102, 114, 111, 122, 101, 110, 95, 105, 109, 112, 111, 114, 116, 108, 105, 98, 95, 101, 120, 116, 101, 114, 110, 97, 108, 46, 70, 105, 108, 101, 76, 111, 97, 100, 101, 114, 46, 95, 95, 100, 111, 99, 95, 95, 58, 115, 116, 114, 35, 111, 112, 97, 113, 117, 101, 6, 215, 8, 95, 95, 105, 110, 105, 116, 95, 95, 9, 53, 95, 102, 114, 111, 122, 101, 110, 95, 105, 109, 112, 111, 114, 116, 108, 105, 98, 95, 101, 120, 116, 101, 114, 110, 97, 108, 46, 70, 105, 108, 101, 76, 111, 97, 100, 101, 114, 46, 95, 95, 105, 110, 105, 116, 95, 95, 35, 111, 112, 97, 113, 117, 101, 6, 216, 6, 95, 95, 101, 113, 95, 95, 9, 51, 95, 102, 114, 111, 122, 101, 110, 95, 105, 109, 112, 111, 114, 116, 108, 105, 98, 95, 101, 120, 116, 101, 114, 110, 97, 108, 46, 70, 105, 108, 101, 76, 111, 97, 100, 101, 114, 46, 95, 95, 101, 113, 95, 95, 35, 111, 112, 97, 113, 117, 101, 6, 217, 8, 95, 95, 104, 97, 115, 104, 95, 95, 9, 53, 95, 102, 114, 111, 122, 101, 110, 95, 105, 109, 112, 111, 114, 116, 108, 105, 98, 95, 101, 120, 116, 101, 114, 110, 97, 108, 46, 70, 105, 108, 101, 76, 111, 97, 100, 101, 114, 46, 95, 95, 104, 97, 115, 104, 95, 95, 35, 111, 112, 97, 113, 117, 101, 6, 218, 11, 108, 111, 97, 100, 95, 109, 111, 100, 117, 108, 101, 9, 56, 95, 102, 114, 111, 122, 101, 110, 95, 105, 109, 112, 111, 114, 116, 108, 105, 98, 95, 101, 120, 116, 101, 114, 110, 97, 108, 46, 70, 105, 108, 101, 76, 111, 97, 100, 101, 114, 46, 108, 111, 97, 100, 95, 109, 111, 100, 117, 108, 101, 35, 111, 112, 97, 113, 117, 101, 6, 219, 12, 103, 101, 116, 95, 102, 105, 108, 101, 110, 97, 109, 101, 9, 57, 95, 102, 114, 111, 122, 101, 110, 95, 105, 109, 112, 111, 114, 116, 108, 105, 98, 95, 101, 120, 116, 101, 114, 110, 97, 108, 46, 70, 105, 108, 101, 76, 111, 97, 100, 101, 114, 46, 103, 101, 116, 95, 102, 105, 108, 101, 110, 97, 109, 101, 35, 111, 112, 97, 113, 117, 101, 6, 220, 8, 103, 101, 116, 95, 100, 97, 116, 97, 9, 53, 95, 102, 114, 111, 122, 101, 110, 95, 105, 109, 112, 111, 114, 116, 108, 105, 98, 95, 101, 120, 116, 101, 114, 110, 97, 108, 46, 70, 105, 108, 101, 76, 111, 97, 100, 101, 114, 46, 103, 101, 116, 95, 100, 97, 116, 97, 35, 111, 112, 97, 113, 117, 101, 6, 221, 19, 103, 101, 116, 95, 114, 101, 115, 111, 117, 114, 99, 101, 95, 114, 101, 97, 100, 101, 114, 9, 64, 95, 102, 114, 111, 122, 101, 110, 95, 105, 109, 112, 111, 114, 116, 108, 105, 98, 95, 101, 120, 116, 101, 114, 110, 97, 108, 46, 70, 105, 108, 101, 76, 111, 97, 100, 101, 114, 46, 103, 101, 116, 95, 114, 101, 115, 111, 117, 114, 99, 101, 95, 114, 101, 97, 100, 101, 114, 35, 111, 112, 97, 113, 117, 101, 6, 222, 21, 95, 95, 115, 116, 97, 116, 105, 99, 95, 97, 116, 116, 114, 105, 98, 117, 116, 101, 115, 95, 95, 4, 0, 0, 23, 6, 224, 8, 95, 95, 100, 105, 99, 116, 95, 95, 4, 0, 0, 24, 6, 226, 11, 95, 95, 119, 101, 97, 107, 114, 101, 102, 95, 95, 4, 0, 0, 25]⟩⟩ 0), (.bool true), (.bool true), (sv "" 227), (.int (26) 0), (.str ⟨⟨[6, 233, 10, 95, 95, 109, 111, 100, 117, 108, 101, 95, 95, 6, 229, 26, 95, 102, 114, 111, 122, 101, 110, 95, 105, 109, 112, 111, 114, 116, 108, 105, 98, 95, 101, 120, 116, 101, 114, 110, 97, 108, 6, 234, 15, 95, 95, 102, 105, 114, 115, 116, 108, 105, 110, 101, 110, 111, 95, 95, 4, 230, 0, 1296, 6, 235, 7, 95, 95, 100, 111, 99, 95, 95, 9, 65, 95, 102, 114, 111, 122, 101, 110, 95, 105, 109, 112, 111, 114, 116, 108, 105, 98, 95, 101, 120, 116, 101, 114, 110, 97, 108, 46, 69, 120, 116, 101, 110, 115, 105, 111, 110, 70, 105, 108, 101, 76, 111, 97, 100, 101, 114, 46, 95, 95, 100, 111, 99, 95, 95, 58, 115, 116, 114, 35, 111, 112, 97, 113, 117, 101, 6, 236, 8, 95, 95, 105, 110, 105, 116, 95, 95, 9, 62, 95, 102, 114, 111, 122, 101, 110, 95, 105, 109, 112, 111, 114, 116, 108, 105, 98, 95, 101, 120, 116, 101, 114, 110, 97, 108, 46, 69, 120, 116, 101, 110, 115, 105, 111, 110, 70, 105, 108, 101, 76, 111, 97, 100, 101, 114, 46, 95, 95, 105, 110, 105, 116, 95, 95, 35, 111, 112, 97, 113, 117, 101, 6, 237, 6, 95, 95, 101, 113, 95, 95, 9, 60, 95, 102, 114, 111, 122, 101, 110, 95, 105, 109, 112, 111, 114, 116, 108, 105, 98, 95, 101, 120, 116, 101, 114, 110, 97, 108, 46, 69, 120, 116, 101, 110, 115, 105, 111, 110, 70, 105, 108, 101, 76, 111, 97, 100, 101, 114, 46, 95, 95, 101, 113, 95, 95, 35, 111, 112, 97, 113, 117, 101, 6, 238, 8, 95, 95, 104, 97, 115, 104, 95, 95, 9, 62, 95, 102, 114, 111, 122, 101, 110, 95, 105, 109, 112, 111, 114, 116, 108, 105, 98, 95, 101, 120, 116, 101, 114, 110, 97, 108, 46, 69, 120, 116, 101, 110, 115, 105, 111, 110, 70, 105, 108, 101, 76, 111, 97, 100, 101, 114, 46, 95, 95, 104, 97, 115, 104, 95, 95, 35, 111, 112, 97, 113, 117, 101, 6, 239, 13, 99, 114, 101, 97, 116, 101, 95, 109, 111, 100, 117, 108, 101, 9, 67, 95, 102, 114, 111, 122, 101, 110, 95, 105, 109, 112, 111, 114, 116, 108, 105, 98, 95, 101, 120, 116, 101, 114, 110, 97, 108, 46, 69, 120, 116, 101, 110, 115, 105, 111, 110, 70, 105, 108, 101, 76, 111, 97, 100, 101, 114, 46, 99, 114, 101, 97, 116, 101, 95, 109, 111, 100, 117, 108, 101, 35, 111, 112, 97, 113, 117, 101, 6, 240, 11, 101, 120, 101, 99, 95, 109, 111, 100, 117, 108, 101, 9, 65, 95, 102, 114, 111, 122, 101, 110, 95, 105, 109, 112, 111, 114, 116, 108, 105, 98, 95, 101, 120, 116, 101, 114, 110, 97, 108, 46, 69, 120, 116, 101, 110, 115, 105, 111, 110, 70, 105, 108, 101, 76, 111, 97, 100, 101, 114, 46, 101, 120, 101, 99, 95, 109, 111, 100, 117, 108, 101, 35, 111, 112, 97, 113, 117, 101, 6, 241, 10, 105, 115, 95, 112, 97, 99, 107, 97, 103, 101, 9, 64, 95, 102, 114, 111, 122, 101, 110, 95, 105, 109, 112, 111, 114, 116, 108, 105, 98, 95, 101, 120, 116, 101, 114, 110, 97, 108, 46, 69, 120, 116, 101, 110, 115, 105, 111, 110, 70, 105, 108, 101, 76, 111, 97, 100, 101, 114, 46, 105, 115, 95, 112, 97, 99, 107, 97, 103, 101, 35, 111, 112, 97, 113, 117, 101, 6, 242, 8, 103, 101, 116, 95, 99, 111, 100, 101, 9, 62, 95, 102, 114, 111, 122, 101, 110, 95, 105, 109, 112, 111, 114, 116, 108, 105, 98, 95, 101, 120, 116, 101, 114, 110, 97, 108, 46, 69, 120, 116, 101, 110, 115, 105, 111, 110, 70, 105, 108, 101, 76, 111, 97, 100, 101, 114, 46, 103, 101, 116, 95, 99, 111, 100, 101, 35, 111, 112, 97, 113, 117, 101, 6, 243, 10, 103, 101, 116, 95, 115, 111, 117, 114, 99, 101, 9, 64, 95, 102, 114, 111, 122, 101, 110, 95, 105, 109, 112, 111, 114, 116, 108, 105, 98, 95, 101, 120, 116, 101, 114, 110, 97, 108, 46, 69, 120, 116, 101, 110, 115, 105, 111, 110, 70, 105, 108, 101, 76, 111, 97, 100, 101, 114, 46, 103, 101, 116, 95, 115, 111, 117, 114, 99, 101, 35, 111, 112, 97, 113, 117, 101, 6, 244, 12, 103, 101, 116, 95, 102, 105, 108, 101, 110, 97, 109, 101, 9, 66, 95, 102, 114, 111, 122, 101, 110, 95, 105, 109, 112, 111, 114, 116, 108, 105, 98, 95, 101, 120, 116, 101, 114, 110, 97, 108, 46, 69, 120, 116, 101, 110, 115, 105, 111, 110, 70, 105, 108, 101, 76, 111, 97, 100, 101, 114, 46, 103, 101, 116, 95, 102, 105, 108, 101, 110, 97, 109, 101, 35, 111, 112, 97, 113, 117, 101, 6, 245, 21, 95, 95, 115, 116, 97, 116, 105, 99, 95, 97, 116, 116, 114, 105, 98, 117, 116, 101, 115, 95, 95, 4, 0, 0, 28]⟩⟩ 0), (.bool true), (.bool true), (sv "" 246), (.int (32) 0), (.str ⟨⟨[6, 267, 10, 95, 95, 109, 111, 100, 117, 108, 101, 95, 95, 6, 257, 17, 95, 102, 114, 111, 122, 101, 110, 95, 105, 109, 112, 111, 114, 116, 108, 105, 98, 6, 268, 15, 95, 95, 102, 105, 114, 115, 116, 108, 105, 110, 101, 110, 111, 95, 95, 4, 258, 0, 562, 6, 269, 7, 95, 95, 100, 111, 99, 95, 95, 9, 47, 95, 102, 114, 111, 122, 101, 110, 95, 105, 109, 112, 111, 114, 116, 108, 105, 98, 46, 77, 111, 100, 117, 108, 101, 83, 112, 101, 99, 46, 95, 95, 100, 111, 99, 95, 95, 58, 115, 116, 114, 35, 111, 112, 97, 113, 117, 101, 6, 270, 8, 95, 95, 105, 110, 105, 116, 95, 95, 9, 44, 95, 102, 114, 111, 122, 101, 110, 95, 105, 109, 112, 111, 114, 116, 108, 105, 98, 46, 77, 111, 100, 117, 108, 101, 83, 112, 101, 99, 46, 95, 95, 105, 110, 105, 116, 95, 95, 35, 111, 112, 97, 113, 117, 101, 6, 271, 8, 95, 95, 114, 101, 112, 114, 95, 95, 9, 44, 95, 102, 114, 111, 122, 101, 110, 95, 105, 109, 112, 111, 114, 116, 108, 105, 98, 46, 77, 111, 100, 117, 108, 101, 83, 112, 101, 99, 46, 95, 95, 114, 101, 112, 114, 95, 95, 35, 111, 112, 97, 113, 117, 101, 6, 272, 6, 95, 95, 101, 113, 95, 95, 9, 42, 95, 102, 114, 111, 122, 101, 110, 95, 105, 109, 112, 111, 114, 116, 108, 105, 98, 46, 77, 111, 100, 117, 108, 101, 83, 112, 101, 99, 46, 95, 95, 101, 113, 95, 95, 35, 111, 112, 97, 113, 117, 101, 6, 273, 6, 99, 97, 99, 104, 101, 100, 9, 42, 95, 102, 114, 111, 122, 101, 110, 95, 105, 109, 112, 111, 114, 116, 108, 105, 98, 46, 77, 111, 100, 117, 108, 101, 83, 112, 101, 99, 46, 99, 97, 99, 104, 101, 100, 35, 111, 112, 97, 113, 117, 101, 6, 274, 6, 112, 97, 114, 101, 110, 116, 9, 42, 95, 102, 114, 111, 122, 101, 110, 95, 105, 109, 112, 111, 114, 116, 108, 105, 98, 46, 77, 111, 100, 117, 108, 101, 83, 112, 101, 99, 46, 112, 97, 114, 101, 110, 116, 35, 111, 112, 97, 113, 117, 101, 6, 275, 12, 104, 97, 115, 95, 108, 111, 99, 97, 116, 105, 111, 110, 9, 48, 95, 102, 114, 111, 122, 101, 110, 95, 105, 109, 112, 111, 114, 116, 108, 105, 98, 46, 77, 111, 100, 117, 108, 101, 83, 112, 101, 99, 46, 104, 97, 115, 95, 108, 111, 99, 97, 116, 105, 111, 110, 35, 111, 112, 97, 113, 117, 101, 6, 276, 21, 95, 95, 115, 116, 97, 116, 105, 99, 95, 97, 116, 116, 114, 105, 98, 117, 116, 101, 115, 95, 95, 4, 0, 0, 34, 6, 278, 8, 95, 95, 100, 105, 99, 116, 95, 95, 4, 0, 0, 35, 6, 280, 11, 95, 95, 119, 101, 97, 107, 114, 101, 102, 95, 95, 4, 0, 0, 36, 6, 281, 8, 95, 95, 104, 97, 115, 104, 95, 95, 0]⟩⟩ 0), (.bool true), (.bool true), (sv "" 282)]⟩ 3), ⟨[]⟩⟩
def o21_0 (P : Params) : Obj := ⟨(.type "dict"), none, (.dict ⟨[en P "__module__" 212 (sv "_frozen_importlib_external" 208), en P "__firstlineno__" 213 (.int (1176) 209), en P "__doc__" 214 (.builtin "_frozen_importlib_external.FileLoader.__doc__:str#opaque"), en P "__init__" 215 (.builtin "_frozen_importlib_external.FileLoader.__init__#opaque"), en P "__eq__" 216 (.builtin "_frozen_importlib_external.FileLoader.__eq__#opaque"), en P "__hash__" 217 (.builtin "_frozen_importlib_external.FileLoader.__hash__#opaque"), en P "load_module" 218 (.builtin "_frozen_importlib_external.FileLoader.load_module#opaque"), en P "get_filename" 219 (.builtin "_frozen_importlib_external.FileLoader.get_filename#opaque"), en P "get_data" 220 (.builtin "_frozen_importlib_external.FileLoader.get_data#opaque"), en P "get_resource_reader" 221 (.builtin "_frozen_importlib_external.FileLoader.get_resource_reader#opaque"), en P "__static_attributes__" 222 (.ref 23), en P "__dict__" 224 (.ref 24), en P "__weakref__" 226 (.ref 25)]⟩ 13), ⟨[]⟩⟩
def o22_0 (P : Params) : Obj := ⟨(.type "type"), none, (.cls ⟨(ns "FileLoader"), [(.type "object")], [(.ref 22), (.type "object")], 21, (ns "FileLoader"), true, [], [(.ref 27)], false, none, false⟩), ⟨[]⟩⟩
def o23_0 (P : Params) : Obj := ⟨(.type "tuple"), none, (.seq ⟨[(sv "name" 210), (sv "path" 211)]⟩ 0), ⟨[]⟩⟩
def o24_0 (P : Params) : Obj := ⟨(.type "getset_descriptor"), none, (.fields ⟨[(sv "__dict__" 223), (.ref 22), (.builtin "function.__dict__"), (.builtin "function.__dict__#set")]⟩), ⟨[]⟩⟩
def o25_0 (P : Params) : Obj := ⟨(.type "getset_descriptor"), none, (.fields ⟨[(sv "__weakref__" 225), (.ref 22), (.builtin "ExceptionGroup.__weakref__"), .none]⟩), ⟨[]⟩⟩
def o26_0 (P : Params) : Obj := ⟨(.type "dict"), none, (.dict ⟨[en P "__module__" 233 (sv "_frozen_importlib_external" 229), en P "__firstlineno__" 234 (.int (1296) 230), en P "__doc__" 235 (.builtin "_frozen_importlib_external.ExtensionFileLoader.__doc__:str#opaque"), en P "__init__" 236 (.builtin "_frozen_importlib_external.ExtensionFileLoader.__init__#opaque"), en P "__eq__" 237 (.builtin "_frozen_importlib_external.ExtensionFileLoader.__eq__#opaque"), en P "__hash__" 238 (.builtin "_frozen_importlib_external.ExtensionFileLoader.__hash__#opaque"), en P "create_module" 239 (.builtin "_frozen_importlib_external.ExtensionFileLoader.create_module#opaque"), en P "exec_module" 240 (.builtin "_frozen_importlib_external.ExtensionFileLoader.exec_module#opaque"), en P "is_package" 241 (.builtin "_frozen_importlib_external.ExtensionFileLoader.is_package#opaque"), en P "get_code" 242 (.builtin "_frozen_importlib_external.ExtensionFileLoader.get_code#opaque"), en P "get_source" 243 (.builtin "_frozen_importlib_external.ExtensionFileLoader.get_source#opaque"), en P "get_filename" 244 (.builtin "_frozen_importlib_external.ExtensionFileLoader.get_filename#opaque"), en P "__static_attributes__" 245 (.ref 28)]⟩ 13), ⟨[]⟩⟩
def o27_0 (P : Params) : Obj := ⟨(.type "type"), none, (.cls ⟨(ns "ExtensionFileLoader"), [(.ref 22), (.ref 16)], [(.ref 27), (.ref 22), (.ref 16), (.type "object")], 26, (ns "ExtensionFileLoader"), true, [], [], false, none, false⟩), ⟨[]⟩⟩
def o28_0 (P : Params) : Obj := ⟨(.type "tuple"), none, (.seq ⟨[(sv "name" 231), (sv "path" 232)]⟩ 0), ⟨[]⟩⟩
def o29_0 (P : Params) : Obj := ⟨(.ref 27), (some 14), .plain, ⟨[]⟩⟩
def o30_0 (P : Params) : Obj := ⟨(.type "list"), none, (.seq ⟨[]⟩ 0), ⟨[]⟩⟩
def o31_0 (P : Params) : Obj := ⟨(.type "dict"), none, (.dict ⟨[en P "name" 248 (sv "math" 247), en P "loader" 249 (.ref 29), en P "origin" 250 (.str ⟨⟨[47, 110, 105, 120, 47, 115, 116, 111, 114, 101, 47, 119, 106, 49, 102, 53, 54, 113, 107, 121, 52, 112, 109, 106, 99, 55, 108, 48, 114, 54, 98, 54, 108, 55, 119, 104, 110, 110, 119, 55, 104, 112, 54, 45, 112, 121, 116, 104, 111, 110, 51, 45, 51, 46, 49, 51, 46, 49, 53, 47, 108, 105, 98, 47, 112, 121, 116, 104, 111, 110, 51, 46, 49, 51, 47, 108, 105, 98, 45, 100, 121, 110, 108, 111, 97, 100, 47, 109, 97, 116, 104, 46, 99, 112, 121, 116, 104, 111, 110, 45, 51, 49, 51, 45, 120, 56, 54, 95, 54, 52, 45, 108, 105, 110, 117, 120, 45, 103, 110, 117, 46, 115, 111]⟩⟩ 186), en P "loader_state" 251 .none, en P "submodule_search_locations" 252 .none, en P "_uninitialized_submodules" 253 (.ref 30), en P "_set_fileattr" 254 (.bool true), en P "_cached" 255 .none, en P "_initializing" 283 (.bool false)]⟩ 9), ⟨[]⟩⟩
def o32_0 (P : Params) : Obj := ⟨(.type "dict"), none, (.dict ⟨[en P "__module__" 267 (sv "_frozen_importlib" 257), en P "__firstlineno__" 268 (.int (562) 258), en P "__doc__" 269 (.builtin "_frozen_importlib.ModuleSpec.__doc__:str#opaque"), en P "__init__" 270 (.builtin "_frozen_importlib.ModuleSpec.__init__#opaque"), en P "__repr__" 271 (.builtin "_frozen_importlib.ModuleSpec.__repr__#opaque"), en P "__eq__" 272 (.builtin "_frozen_importlib.ModuleSpec.__eq__#opaque"), en P "cached" 273 (.builtin "_frozen_importlib.ModuleSpec.cached#opaque"), en P "parent" 274 (.builtin "_frozen_importlib.ModuleSpec.parent#opaque"), en P "has_location" 275 (.builtin "_frozen_importlib.ModuleSpec.has_location#opaque"), en P "__static_attributes__" 276 (.ref 34), en P "__dict__" 278 (.ref 35), en P "__weakref__" 280 (.ref 36), en P "__hash__" 281 .none]⟩ 13), ⟨[]⟩⟩
def o33_0 (P : Params) : Obj := ⟨(.type "type"), none, (.cls ⟨(ns "ModuleSpec"), [(.type "object")], [(.ref 33), (.type "object")], 32, (ns "ModuleSpec"), true, [], [], false, none, false⟩), ⟨[]⟩⟩
def o34_0 (P : Params) : Obj := ⟨(.type "tuple"), none, (.seq ⟨[(sv "_cached" 259), (sv "_set_fileattr" 260), (sv "_uninitialized_submodules" 261), (sv "loader" 262), (sv "loader_state" 263), (sv "name" 264), (sv "origin" 265), (sv "submodule_search_locations" 266)]⟩ 0), ⟨[]⟩⟩
def o35_0 (P : Params) : Obj := ⟨(.type "getset_descriptor"), none, (.fields ⟨[(sv "__dict__" 277), (.ref 33), (.builtin "function.__dict__"), (.builtin "function.__dict__#set")]⟩), ⟨[]⟩⟩
def o36_0 (P : Params) : Obj := ⟨(.type "getset_descriptor"), none, (.fields ⟨[(sv "__weakref__" 279), (.ref 33), (.builtin "ExceptionGroup.__weakref__"), .none]⟩), ⟨[]⟩⟩
def o37_0 (P : Params) : Obj := ⟨(.ref 33), (some 31), .plain, ⟨[]⟩⟩
def o38_0 (P : Params) : Obj := ⟨.none, none, (.seq ⟨[(.int (12) 0), (.str ⟨⟨[6, 287, 8, 95, 95, 110, 97, 109, 101, 95, 95, 6, 286, 4, 109, 97, 116, 104, 6, 288, 7, 95, 95, 100, 111, 99, 95, 95, 9, 23, 109, 97, 116, 104, 46, 95, 95, 100, 111, 99, 95, 95, 58, 115, 116, 114, 35, 111, 112, 97, 113, 117, 101, 6, 290, 11, 95, 95, 112, 97, 99, 107, 97, 103, 101, 95, 95, 6, 289, 0, 6, 291, 10, 95, 95, 108, 111, 97, 100, 101, 114, 95, 95, 4, 0, 0, 29, 6, 292, 8, 95, 95, 115, 112, 101, 99, 95, 95, 4, 0, 0, 37, 6, 293, 4, 97, 99, 111, 115, 9, 9, 109, 97, 116, 104, 46, 97, 99, 111, 115, 6, 294, 5, 97, 99, 111, 115, 104, 9, 10, 109, 97, 116, 104, 46, 97, 99, 111, 115, 104, 6, 295, 4, 97, 115, 105, 110, 9, 9, 109, 97, 116, 104, 46, 97, 115, 105, 110, 6, 296, 5, 97, 115, 105, 110, 104, 9, 10, 109, 97, 116, 104, 46, 97, 115, 105, 110, 104, 6, 297, 4, 97, 116, 97, 110, 9, 9, 109, 97, 116, 104, 46, 97, 116, 97, 110, 6, 298, 5, 97, 116, 97, 110, 50, 9, 10, 109, 97, 116, 104, 46, 97, 116, 97, 110, 50, 6, 299, 5, 97, 116, 97, 110, 104, 9, 10, 109, 97, 116, 104, 46, 97, 116, 97, 110, 104, 6, 300, 4, 99, 98, 114, 116, 9, 9, 109, 97, 116, 104, 46, 99, 98, 114, 116, 6, 301, 4, 99, 101, 105, 108, 9, 9, 109, 97, 116, 104, 46, 99, 101, 105, 108, 6, 302, 8, 99, 111, 112, 121, 115, 105, 103, 110, 9, 13, 109, 97, 116, 104, 46, 99, 111, 112, 121, 115, 105, 103, 110, 6, 303, 3, 99, 111, 115, 9, 8, 109, 97, 116, 104, 46, 99, 111, 115, 6, 304, 4, 99, 111, 115, 104, 9, 9, 109, 97, 116, 104, 46, 99, 111, 115, 104, 6, 305, 7, 100, 101, 103, 114, 101, 101, 115, 9, 12, 109, 97, 116, 104, 46, 100, 101, 103, 114, 101, 101, 115, 6, 306, 4, 100, 105, 115, 116, 9, 9, 109, 97, 116, 104, 46, 100, 105, 115, 116, 6, 307, 3, 101, 114, 102, 9, 8, 109, 97, 116, 104, 46, 101, 114, 102, 6, 308, 4, 101, 114, 102, 99, 9, 9, 109, 97, 116, 104, 46, 101, 114, 102, 99, 6, 309, 3, 101, 120, 112, 9, 8, 109, 97, 116, 104, 46, 101, 120, 112, 6, 310, 4, 101, 120, 112, 50, 9, 9, 109, 97, 116, 104, 46, 101, 120, 112, 50, 6, 311, 5, 101, 120, 112, 109, 49, 9, 10, 109, 97, 116, 104, 46, 101, 120, 112, 109, 49, 6, 312, 4, 102, 97, 98, 115, 9, 9, 109, 97, 116, 104, 46, 102, 97, 98, 115, 6, 313, 9, 102, 97, 99, 116, 111, 114, 105, 97, 108, 9, 14, 109, 97, 116, 104, 46, 102, 97, 99, 116, 111, 114, 105, 97, 108, 6, 314, 5, 102, 108, 111, 111, 114, 9, 10, 109, 97, 116, 104, 46, 102, 108, 111, 111, 114, 6, 315, 3, 102, 109, 97, 9, 8, 109, 97, 116, 104, 46, 102, 109, 97, 6, 316, 4, 102, 109, 111, 100, 9, 9, 109, 97, 116, 104, 46, 102, 109, 111, 100, 6, 317, 5, 102, 114, 101, 120, 112, 9, 10, 109, 97, 116, 104, 46, 102, 114, 101, 120, 112, 6, 318, 4, 102, 115, 117, 109, 9, 9, 109, 97, 116, 104, 46, 102, 115, 117, 109, 6, 319, 5, 103, 97, 109, 109, 97, 9, 10, 109, 97, 116, 104, 46, 103, 97, 109, 109, 97, 6, 320, 3, 103, 99, 100, 9, 8, 109, 97, 116, 104, 46, 103, 99, 100, 6, 321, 5, 104, 121, 112, 111, 116, 9, 10, 109, 97, 116, 104, 46, 104, 121, 112, 111, 116, 6, 322, 7, 105, 115, 99, 108, 111, 115, 101, 9, 12, 109, 97, 116, 104, 46, 105, 115, 99, 108, 111, 115, 101, 6, 323, 8, 105, 115, 102, 105, 110, 105, 116, 101, 9, 13, 109, 97, 116, 104, 46, 105, 115, 102, 105, 110, 105, 116, 101, 6, 324, 5, 105, 115, 105, 110, 102, 9, 10, 109, 97, 116, 104, 46, 105, 115, 105, 110, 102, 6, 325, 5, 105, 115, 110, 97, 110, 9, 10, 109, 97, 116, 104, 46, 105, 115, 110, 97, 110, 6, 326, 5, 105, 115, 113, 114, 116, 9, 10, 109, 97, 116, 104, 46, 105, 115, 113, 114, 116, 6, 327, 3, 108, 99, 109, 9, 8, 109, 97, 116, 104, 46, 108, 99, 109, 6, 328, 5, 108, 100, 101, 120, 112, 9, 10, 109, 97, 116, 104, 46, 108, 100, 101, 120, 112, 6, 329, 6, 108, 103, 97, 109, 109, 97, 9, 11, 109, 97, 116, 104, 46, 108, 103, 97, 109, 109, 97, 6, 330, 3, 108, 111, 103, 9, 8, 109, 97, 116, 104, 46, 108, 111, 103, 6, 331, 5, 108, 111, 103, 49, 112, 9, 10, 109, 97, 116, 104, 46, 108, 111, 103, 49, 112, 6, 332, 5, 108, 111, 103, 49, 48, 9, 10, 109, 97, 116, 104, 46, 108, 111, 103, 49, 48, 6, 333, 4, 108, 111, 103, 50, 9, 9, 109, 97, 116, 104, 46, 108, 111, 103, 50, 6, 334, 4, 109, 111, 100, 102, 9, 9, 109, 97, 116, 104, 46, 109, 111, 100, 102, 6, 335, 3, 112, 111, 119, 9, 8, 109, 97, 116, 104, 46, 112, 111, 119, 6, 336, 7, 114, 97, 100, 105, 97, 110, 115, 9, 12, 109, 97, 116, 104, 46, 114, 97, 100, 105, 97, 110, 115, 6, 337, 9, 114, 101, 109, 97, 105, 110, 100, 101, 114, 9, 14, 109, 97, 116, 104, 46, 114, 101, 109, 97, 105, 110, 100, 101, 114, 6, 338, 3, 115, 105, 110, 9, 8, 109, 97, 116, 104, 46, 115, 105, 110, 6, 339, 4, 115, 105, 110, 104, 9, 9, 109, 97, 116, 104, 46, 115, 105, 110, 104, 6, 340, 4, 115, 113, 114, 116, 9, 9, 109, 97, 116, 104, 46, 115, 113, 114, 116, 6, 341, 3, 116, 97, 110, 9, 8, 109, 97, 116, 104, 46, 116, 97, 110, 6, 342, 4, 116, 97, 110, 104, 9, 9, 109, 97, 116, 104, 46, 116, 97, 110, 104, 6, 343, 7, 115, 117, 109, 112, 114, 111, 100, 9, 12, 109, 97, 116, 104, 46, 115, 117, 109, 112, 114, 111, 100, 6, 344, 5, 116, 114, 117, 110, 99, 9, 10, 109, 97, 116, 104, 46, 116, 114, 117, 110, 99, 6, 345, 4, 112, 114, 111, 100, 9, 9, 109, 97, 116, 104, 46, 112, 114, 111, 100, 6, 346, 4, 112, 101, 114, 109, 9, 9, 109, 97, 116, 104, 46, 112, 101, 114, 109, 6, 347, 4, 99, 111, 109, 98, 9, 9, 109, 97, 116, 104, 46, 99, 111, 109, 98, 6, 348, 9, 110, 101, 120, 116, 97, 102, 116, 101, 114, 9, 14, 109, 97, 116, 104, 46, 110, 101, 120, 116, 97, 102, 116, 101, 114, 6, 349, 3, 117, 108, 112, 9, 8, 109, 97, 116, 104, 46, 117, 108, 112, 6, 350, 8, 95, 95, 102, 105, 108, 101, 95, 95, 6, 186, 123, 47, 110, 105, 120, 47, 115, 116, 111, 114, 101, 47, 119, 106, 49, 102, 53, 54, 113, 107, 121, 52, 112, 109, 106, 99, 55, 108, 48, 114, 54, 98, 54, 108, 55, 119, 104, 110, 110, 119, 55, 104, 112, 54, 45, 112, 121, 116, 104, 111, 110, 51, 45, 51, 46, 49, 51, 46, 49, 53, 47, 108, 105, 98, 47, 112, 121, 116, 104, 111, 110, 51, 46, 49, 51, 47, 108, 105, 98, 45, 100, 121, 110, 108, 111, 97, 100, 47, 109, 97, 116, 104, 46, 99, 112, 121, 116, 104, 111, 110, 45, 51, 49, 51, 45, 120, 56, 54, 95, 54, 52, 45, 108, 105, 110, 117, 120, 45, 103, 110, 117, 46, 115, 111, 6, 352, 2, 112, 105, 5, 351, 4614256656552045848, 6, 354, 1, 101, 5, 353, 4613303445314885481, 6, 356, 3, 116, 97, 117, 5, 355, 4618760256179416344, 6, 358, 3, 105, 110, 102, 5, 357, 9218868437227405312, 6, 360, 3, 110, 97, 110, 5, 359, 9221120237041090560]⟩⟩ 0), (.bool true), (.bool false), (sv "math" 362)]⟩ 0), ⟨[]⟩⟩
def T0 (P : Params) : BT := (.node (o0_0 P) (.node (o1_0 P) (.node (o3_0 P) (.node (o7_0 P) (.node (o15_0 P) (.node (o31_0 P) .nil .nil) .nil) (.node (o23_0 P) .nil .nil)) (.node (o11_0 P) (.node (o19_0 P) (.node (o35_0 P) .nil .nil) .nil) (.node (o27_0 P) .nil .nil))) (.node (o5_0 P) (.node (o9_0 P) (.node (o17_0 P) (.node (o33_0 P) .nil .nil) .nil) (.node (o25_0 P) .nil .nil)) (.node (o13_0 P) (.node (o21_0 P) (.node (o37_0 P) .nil .nil) .nil) (.node (o29_0 P) .nil .nil)))) (.node (o2_0 P) (.node (o4_0 P) (.node (o8_0 P) (.node (o16_0 P) (.node (o32_0 P) .nil .nil) .nil) (.node (o24_0 P) .nil .nil)) (.node (o12_0 P) (.node (o20_0 P) (.node (o36_0 P) .nil .nil) .nil) (.node (o28_0 P) .nil .nil))) (.node (o6_0 P) (.node (o10_0 P) (.node (o18_0 P) (.node (o34_0 P) .nil .nil) .nil) (.node (o26_0 P) .nil .nil)) (.node (o14_0 P) (.node (o22_0 P) (.node (o38_0 P) .nil .nil) .nil) (.node (o30_0 P) .nil .nil)))))
def X0 (w : World) (os : OsState) : SharedT := ⟨T0 w.params, 39, lf, ⟨[]⟩, ⟨0, 0, 0, 0⟩, 370, os⟩
def o39_1 (P : Params) : Obj := ⟨(.type "tuple"), none, (.seq ⟨[]⟩ 0), ⟨[]⟩⟩
def o40_1 (P : Params) : Obj := ⟨.none, none, (.fields ⟨[]⟩), ⟨[]⟩⟩
def o41_1 (P : Params) : Obj := ⟨(.type "code"), none, (.fields ⟨[(sv "<module>" 371), (sv "<module>" 372), (sv "/claim/cut.py" 373), (.int (1) 0), (.int (0) 0), (.int (0) 0), (.int (0) 0), (.int (0) 0), (.ref 39), (.bool false), (.int (370) 0), (.ref 40), .none, .none, .none, .none, (.int (374) 0), (.int (1) 0), (sv "/claim/cut.py" 375)]⟩), ⟨[]⟩⟩
def o42_1 (P : Params) : Obj := ⟨(.type "frame"), none, .plain, ⟨[(some (.ref 41)), (some (.ref 3)), (some (.ref 3)), none, (some (sv "__main__" 164)), none, (some (.ref 0))]⟩⟩
def T1 (P : Params) : BT := (.node (o0_0 P) (.node (o1_0 P) (.node (o3_0 P) (.node (o7_0 P) (.node (o15_0 P) (.node (o31_0 P) .nil .nil) .nil) (.node (o23_0 P) (.node (o39_1 P) .nil .nil) .nil)) (.node (o11_0 P) (.node (o19_0 P) (.node (o35_0 P) .nil .nil) .nil) (.node (o27_0 P) .nil .nil))) (.node (o5_0 P) (.node (o9_0 P) (.node (o17_0 P) (.node (o33_0 P) .nil .nil) .nil) (.node (o25_0 P) (.node (o41_1 P) .nil .nil) .nil)) (.node (o13_0 P) (.node (o21_0 P) (.node (o37_0 P) .nil .nil) .nil) (.node (o29_0 P) .nil .nil)))) (.node (o2_0 P) (.node (o4_0 P) (.node (o8_0 P) (.node (o16_0 P) (.node (o32_0 P) .nil .nil) .nil) (.node (o24_0 P) (.node (o40_1 P) .nil .nil) .nil)) (.node (o12_0 P) (.node (o20_0 P) (.node (o36_0 P) .nil .nil) .nil) (.node (o28_0 P) .nil .nil))) (.node (o6_0 P) (.node (o10_0 P) (.node (o18_0 P) (.node (o34_0 P) .nil .nil) .nil) (.node (o26_0 P) (.node (o42_1 P) .nil .nil) .nil)) (.node (o14_0 P) (.node (o22_0 P) (.node (o38_0 P) .nil .nil) .nil) (.node (o30_0 P) .nil .nil)))))
def X1 (w : World) (os : OsState) : SharedT := ⟨T1 w.params, 43, lf, ⟨[]⟩, ⟨0, 0, 0, 0⟩, 376, os⟩
def T2 (P : Params) : BT := (.node (o0_0 P) (.node (o1_0 P) (.node (o3_0 P) (.node (o7_0 P) (.node (o15_0 P) (.node (o31_0 P) .nil .nil) .nil) (.node (o23_0 P) (.node (o39_1 P) .nil .nil) .nil)) (.node (o11_0 P) (.node (o19_0 P) (.node (o35_0 P) .nil .nil) .nil) (.node (o27_0 P) .nil .nil))) (.node (o5_0 P) (.node (o9_0 P) (.node (o17_0 P) (.node (o33_0 P) .nil .nil) .nil) (.node (o25_0 P) (.node (o41_1 P) .nil .nil) .nil)) (.node (o13_0 P) (.node (o21_0 P) (.node (o37_0 P) .nil .nil) .nil) (.node (o29_0 P) .nil .nil)))) (.node (o2_0 P) (.node (o4_0 P) (.node (o8_0 P) (.node (o16_0 P) (.node (o32_0 P) .nil .nil) .nil) (.node (o24_0 P) (.node (o40_1 P) .nil .nil) .nil)) (.node (o12_0 P) (.node (o20_0 P) (.node (o36_0 P) .nil .nil) .nil) (.node (o28_0 P) .nil .nil))) (.node (o6_0 P) (.node (o10_0 P) (.node (o18_0 P) (.node (o34_0 P) .nil .nil) .nil) (.node (o26_0 P) (.node (o42_1 P) .nil .nil) .nil)) (.node (o14_0 P) (.node (o22_0 P) (.node (o38_0 P) .nil .nil) .nil) (.node (o30_0 P) .nil .nil)))))
def X2 (w : World) (os : OsState) : SharedT := ⟨T2 w.params, 43, lf, ⟨[]⟩, ⟨0, 0, 0, 0⟩, 376, os⟩
def o3_3 (P : Params) : Obj := ⟨(.type "dict"), none, (.dict ⟨[en P "__name__" 165 (sv "watchedways.lengths" 799), en P "__doc__" 166 .none, en P "__package__" 167 .none, en P "__loader__" 168 (.builtin "__main__.__loader__#opaque"), en P "__spec__" 169 .none, en P "__annotations__" 170 (.ref 6), en P "__builtins__" 171 (.ref 4), en P "__file__" 173 (sv "/claim/cut.py" 172), en P "__cached__" 174 .none, en P "gcd" 369 (.builtin "math.gcd"), en P "_wall" 382 (.ref 49), en P "WayError" 411 (.ref 66), en P "BadReckoning" 427 (.ref 79), en P "BadWorth" 443 (.ref 91), en P "BadNumber" 459 (.ref 103), en P "TooMany" 482 (.ref 122), en P "is_integer" 491 (.ref 131), en P "is_row" 498 (.ref 138), en P "FEWEST_WORTHS" 502 (.int (2) 501), en P "MOST_WORTHS" 504 (.int (16) 503), en P "first_fault" 514 (.ref 145), en P "size_fault" 525 (.ref 152), en P "is_square" 531 (.ref 157), en P "is_side" 537 (.ref 162), en P "is_below" 545 (.ref 169), en P "none_fault" 555 (.ref 176), en P "one_fault" 564 (.ref 183), en P "idle_fault" 572 (.ref 190), en P "swap_fault" 581 (.ref 197), en P "grouping_fault" 593 (.ref 204), en P "over_fault" 606 (.ref 211), en P "same_fault" 614 (.ref 218), en P "check_worths" 626 (.ref 225), en P "Reckoning" 767 (.ref 325), en P "check_told" 774 (.ref 336), en P "turned" 783 (.ref 343), en P "beside" 792 (.ref 350), en P "side_by_side" 798 (.ref 355)]⟩ 38), ⟨[]⟩⟩
def o40_3 (P : Params) : Obj := ⟨.none, none, (.fields ⟨[(.int (2) 0), (.int (0) 0), (.ref 48), (.int (6) 0), (.int (0) 0), (.ref 55), (.int (10) 0), (.int (0) 0), (.ref 75), (.int (12) 0), (.int (0) 0), (.ref 87), (.int (14) 0), (.int (0) 0), (.ref 99), (.int (16) 0), (.int (0) 0), (.ref 111), (.int (21) 0), (.int (0) 0), (.ref 130), (.int (23) 0), (.int (0) 0), (.ref 137), (.int (28) 0), (.int (0) 0), (.ref 144), (.int (30) 0), (.int (0) 0), (.ref 151), (.int (39) 0), (.int (0) 0), (.ref 156), (.int (41) 0), (.int (0) 0), (.ref 161), (.int (43) 0), (.int (0) 0), (.ref 168), (.int (45) 0), (.int (0) 0), (.ref 175), (.int (52) 0), (.int (0) 0), (.ref 182), (.int (57) 0), (.int (0) 0), (.ref 189), (.int (62) 0), (.int (0) 0), (.ref 196), (.int (68) 0), (.int (0) 0), (.ref 203), (.int (76) 0), (.int (0) 0), (.ref 210), (.int (87) 0), (.int (0) 0), (.ref 217), (.int (90) 0), (.int (0) 0), (.ref 224), (.int (95) 0), (.int (0) 0), (.ref 231), (.int (159) 0), (.int (0) 0), (.ref 335), (.int (163) 0), (.int (0) 0), (.ref 342), (.int (166) 0), (.int (0) 0), (.ref 349), (.int (173) 0), (.int (0) 0), (.ref 354)]⟩), ⟨[]⟩⟩
def o43_3 (P : Params) : Obj := ⟨(.type "tuple"), none, (.seq ⟨[]⟩ 0), ⟨[]⟩⟩
def o44_3 (P : Params) : Obj := ⟨.none, none, (.fields ⟨[]⟩), ⟨[]⟩⟩
def o45_3 (P : Params) : Obj := ⟨(.type "tuple"), none, (.seq ⟨[(sv "k" 379)]⟩ 0), ⟨[]⟩⟩
def o46_3 (P : Params) : Obj := ⟨(.type "tuple"), none, (.seq ⟨[]⟩ 0), ⟨[]⟩⟩
def o47_3 (P : Params) : Obj := ⟨.none, none, (.func ⟨(ns "_wall"), (ns "_wall"), defArgs (top 1), .stmts (defBody (top 1)), defScope (top 1), 0, [], .none, .none, .none, .none, none, .none, .none, 0⟩), ⟨[]⟩⟩
def o48_3 (P : Params) : Obj := ⟨(.type "code"), none, (.fields ⟨[(sv "_wall" 376), (sv "_wall" 377), (sv "/claim/cut.py" 378), (.int (2) 0), (.int (1) 0), (.int (0) 0), (.int (0) 0), (.int (3) 0), (.ref 43), (.bool true), (.int (370) 0), (.ref 44), .none, (.ref 45), (.ref 46), (.ref 47), (.int (380) 0), (.int (2) 0), (sv "/claim/cut.py" 381)]⟩), ⟨[]⟩⟩
def o49_3 (P : Params) : Obj := ⟨(.type "function"), none, (.func ⟨(ns "_wall"), (ns "_wall"), defArgs (top 1), .stmts (defBody (top 1)), defScope (top 1), 3, [], .none, .none, .none, (sv "__main__" 164), none, (.ref 48), .none, 0⟩), ⟨[]⟩⟩
def o50_3 (P : Params) : Obj := ⟨(.type "tuple"), none, (.seq ⟨[(.type "ValueError")]⟩ 0), ⟨[]⟩⟩
def o51_3 (P : Params) : Obj := ⟨(.type "builtin_function_or_method"), none, (.fields ⟨[(.builtin "type.__prepare__"), (.type "type")]⟩), ⟨[]⟩⟩
def o52_3 (P : Params) : Obj := ⟨(.type "dict"), none, (.dict ⟨[en P "__module__" 392 (sv "watchedways.errors" 383), en P "__qualname__" 394 (sv "WayError" 393), en P "__firstlineno__" 396 (.int (6) 395), en P "__init__" 404 (.ref 63), en P "__static_attributes__" 406 (.ref 64)]⟩ 5), ⟨[]⟩⟩
def o53_3 (P : Params) : Obj := ⟨(.type "tuple"), none, (.seq ⟨[]⟩ 0), ⟨[]⟩⟩
def o54_3 (P : Params) : Obj := ⟨.none, none, (.fields ⟨[(.int (8) 0), (.int (4) 0), (.ref 62)]⟩), ⟨[]⟩⟩
def o55_3 (P : Params) : Obj := ⟨(.type "code"), none, (.fields ⟨[(sv "WayError" 387), (sv "WayError" 388), (sv "/claim/cut.py" 389), (.int (6) 0), (.int (0) 0), (.int (0) 0), (.int (0) 0), (.int (0) 0), (.ref 53), (.bool false), (.int (370) 0), (.ref 54), .none, .none, .none, .none, (.int (390) 0), (.int (6) 0), (sv "/claim/cut.py" 391)]⟩), ⟨[]⟩⟩
def o56_3 (P : Params) : Obj := ⟨(.type "frame"), none, .plain, ⟨[(some (.ref 55)), (some (.ref 3)), (some (.ref 52)), none, (some (sv "watchedways.errors" 383)), none, (some (.ref 0))]⟩⟩
def o57_3 (P : Params) : Obj := ⟨(.type "tuple"), none, (.seq ⟨[]⟩ 0), ⟨[]⟩⟩
def o58_3 (P : Params) : Obj := ⟨.none, none, (.fields ⟨[]⟩), ⟨[]⟩⟩
def o59_3 (P : Params) : Obj := ⟨(.type "tuple"), none, (.seq ⟨[(sv "self" 400), (sv "value" 401)]⟩ 0), ⟨[]⟩⟩
def o60_3 (P : Params) : Obj := ⟨(.type "tuple"), none, (.seq ⟨[]⟩ 0), ⟨[]⟩⟩
def o61_3 (P : Params) : Obj := ⟨.none, none, (.func ⟨(ns "__init__"), (ns "WayError.__init__"), defArgs (subS (top 3) 0), .stmts (defBody (subS (top 3) 0)), defScope (subS (top 3) 0), 0, [], .none, .none, .none, .none, none, .none, .none, 0⟩), ⟨[]⟩⟩
def o62_3 (P : Params) : Obj := ⟨(.type "code"), none, (.fields ⟨[(sv "__init__" 397), (sv "WayError.__init__" 398), (sv "/claim/cut.py" 399), (.int (8) 0), (.int (2) 0), (.int (0) 0), (.int (0) 0), (.int (3) 0), (.ref 57), (.bool true), (.int (370) 0), (.ref 58), .none, (.ref 59), (.ref 60), (.ref 61), (.int (402) 0), (.int (8) 0), (sv "/claim/cut.py" 403)]⟩), ⟨[]⟩⟩
def o63_3 (P : Params) : Obj := ⟨(.type "function"), none, (.func ⟨(ns "__init__"), (ns "WayError.__init__"), defArgs (subS (top 3) 0), .stmts (defBody (subS (top 3) 0)), defScope (subS (top 3) 0), 3, [], .none, .none, .none, (sv "watchedways.errors" 383), none, (.ref 62), .none, 0⟩), ⟨[]⟩⟩
def o64_3 (P : Params) : Obj := ⟨(.type "tuple"), none, (.seq ⟨[(sv "value" 405)]⟩ 0), ⟨[]⟩⟩
def o65_3 (P : Params) : Obj := ⟨(.type "dict"), none, (.dict ⟨[en P "__module__" 392 (sv "watchedways.errors" 383), en P "__firstlineno__" 396 (.int (6) 395), en P "__init__" 404 (.ref 63), en P "__static_attributes__" 406 (.ref 64), en P "__weakref__" 408 (.ref 67), en P "__doc__" 409 .none]⟩ 3), ⟨[]⟩⟩
def o66_3 (P : Params) : Obj := ⟨(.type "type"), none, (.cls ⟨(ns "WayError"), [(.type "ValueError")], [(.ref 66), (.type "ValueError"), (.type "Exception"), (.type "BaseException"), (.type "object")], 65, (ns "WayError"), true, [], [(.ref 79), (.ref 91), (.ref 103), (.ref 122)], false, none, false⟩), ⟨[(some (.ref 50)), none, (some (sv "WayError" 385)), (some (sv "WayError" 393)), (some (.builtin "ValueError.__new__")), (some (.bool true))]⟩⟩
def o67_3 (P : Params) : Obj := ⟨(.type "getset_descriptor"), none, (.fields ⟨[(sv "__weakref__" 407), (.ref 66), (.builtin "ExceptionGroup.__weakref__"), .none]⟩), ⟨[]⟩⟩
def o68_3 (P : Params) : Obj := ⟨(.type "super"), none, (.fields ⟨[(.ref 66), (.ref 66), (.ref 66)]⟩), ⟨[]⟩⟩
def o69_3 (P : Params) : Obj := ⟨(.type "builtin_function_or_method"), none, (.fields ⟨[(.builtin "object.__init_subclass__"), (.ref 66)]⟩), ⟨[]⟩⟩
def o70_3 (P : Params) : Obj := ⟨(.type "tuple"), none, (.seq ⟨[(.ref 66)]⟩ 0), ⟨[]⟩⟩
def o71_3 (P : Params) : Obj := ⟨(.type "builtin_function_or_method"), none, (.fields ⟨[(.builtin "type.__prepare__"), (.type "type")]⟩), ⟨[]⟩⟩
def o72_3 (P : Params) : Obj := ⟨(.type "dict"), none, (.dict ⟨[en P "__module__" 419 (sv "watchedways.errors" 383), en P "__qualname__" 421 (sv "BadReckoning" 420), en P "__firstlineno__" 423 (.int (10) 422), en P "__static_attributes__" 424 (.ref 77)]⟩ 4), ⟨[]⟩⟩
def o73_3 (P : Params) : Obj := ⟨(.type "tuple"), none, (.seq ⟨[]⟩ 0), ⟨[]⟩⟩
def o74_3 (P : Params) : Obj := ⟨.none, none, (.fields ⟨[]⟩), ⟨[]⟩⟩
def o75_3 (P : Params) : Obj := ⟨(.type "code"), none, (.fields ⟨[(sv "BadReckoning" 414), (sv "BadReckoning" 415), (sv "/claim/cut.py" 416), (.int (10) 0), (.int (0) 0), (.int (0) 0), (.int (0) 0), (.int (0) 0), (.ref 73), (.bool false), (.int (370) 0), (.ref 74), .none, .none, .none, .none, (.int (417) 0), (.int (10) 0), (sv "/claim/cut.py" 418)]⟩), ⟨[]⟩⟩
def o76_3 (P : Params) : Obj := ⟨(.type "frame"), none, .plain, ⟨[(some (.ref 75)), (some (.ref 3)), (some (.ref 72)), none, (some (sv "watchedways.errors" 383)), none, (some (.ref 0))]⟩⟩
def o77_3 (P : Params) : Obj := ⟨(.type "tuple"), none, (.seq ⟨[]⟩ 0), ⟨[]⟩⟩
def o78_3 (P : Params) : Obj := ⟨(.type "dict"), none, (.dict ⟨[en P "__module__" 419 (sv "watchedways.errors" 383), en P "__firstlineno__" 423 (.int (10) 422), en P "__static_attributes__" 424 (.ref 77), en P "__doc__" 425 .none]⟩ 2), ⟨[]⟩⟩
def o79_3 (P : Params) : Obj := ⟨(.type "type"), none, (.cls ⟨(ns "BadReckoning"), [(.ref 66)], [(.ref 79), (.ref 66), (.type "ValueError"), (.type "Exception"), (.type "BaseException"), (.type "object")], 78, (ns "BadReckoning"), true, [], [], false, none, false⟩), ⟨[(some (.ref 70)), none, (some (sv "BadReckoning" 412)), (some (sv "BadReckoning" 420)), (some (.builtin "ValueError.__new__")), (some (.bool true))]⟩⟩
def o80_3 (P : Params) : Obj := ⟨(.type "super"), none, (.fields ⟨[(.ref 79), (.ref 79), (.ref 79)]⟩), ⟨[]⟩⟩
def o81_3 (P : Params) : Obj := ⟨(.type "builtin_function_or_method"), none, (.fields ⟨[(.builtin "object.__init_subclass__"), (.ref 79)]⟩), ⟨[]⟩⟩
def o82_3 (P : Params) : Obj := ⟨(.type "tuple"), none, (.seq ⟨[(.ref 66)]⟩ 0), ⟨[]⟩⟩
def o83_3 (P : Params) : Obj := ⟨(.type "builtin_function_or_method"), none, (.fields ⟨[(.builtin "type.__prepare__"), (.type "type")]⟩), ⟨[]⟩⟩
def o84_3 (P : Params) : Obj := ⟨(.type "dict"), none, (.dict ⟨[en P "__module__" 435 (sv "watchedways.errors" 383), en P "__qualname__" 437 (sv "BadWorth" 436), en P "__firstlineno__" 439 (.int (12) 438), en P "__static_attributes__" 440 (.ref 89)]⟩ 4), ⟨[]⟩⟩
def o85_3 (P : Params) : Obj := ⟨(.type "tuple"), none, (.seq ⟨[]⟩ 0), ⟨[]⟩⟩
def o86_3 (P : Params) : Obj := ⟨.none, none, (.fields ⟨[]⟩), ⟨[]⟩⟩
def o87_3 (P : Params) : Obj := ⟨(.type "code"), none, (.fields ⟨[(sv "BadWorth" 430), (sv "BadWorth" 431), (sv "/claim/cut.py" 432), (.int (12) 0), (.int (0) 0), (.int (0) 0), (.int (0) 0), (.int (0) 0), (.ref 85), (.bool false), (.int (370) 0), (.ref 86), .none, .none, .none, .none, (.int (433) 0), (.int (12) 0), (sv "/claim/cut.py" 434)]⟩), ⟨[]⟩⟩
def o88_3 (P : Params) : Obj := ⟨(.type "frame"), none, .plain, ⟨[(some (.ref 87)), (some (.ref 3)), (some (.ref 84)), none, (some (sv "watchedways.errors" 383)), none, (some (.ref 0))]⟩⟩
def o89_3 (P : Params) : Obj := ⟨(.type "tuple"), none, (.seq ⟨[]⟩ 0), ⟨[]⟩⟩
def o90_3 (P : Params) : Obj := ⟨(.type "dict"), none, (.dict ⟨[en P "__module__" 435 (sv "watchedways.errors" 383), en P "__firstlineno__" 439 (.int (12) 438), en P "__static_attributes__" 440 (.ref 89), en P "__doc__" 441 .none]⟩ 2), ⟨[]⟩⟩
def o91_3 (P : Params) : Obj := ⟨(.type "type"), none, (.cls ⟨(ns "BadWorth"), [(.ref 66)], [(.ref 91), (.ref 66), (.type "ValueError"), (.type "Exception"), (.type "BaseException"), (.type "object")], 90, (ns "BadWorth"), true, [], [], false, none, false⟩), ⟨[(some (.ref 82)), none, (some (sv "BadWorth" 428)), (some (sv "BadWorth" 436)), (some (.builtin "ValueError.__new__")), (some (.bool true))]⟩⟩
def o92_3 (P : Params) : Obj := ⟨(.type "super"), none, (.fields ⟨[(.ref 91), (.ref 91), (.ref 91)]⟩), ⟨[]⟩⟩
def o93_3 (P : Params) : Obj := ⟨(.type "builtin_function_or_method"), none, (.fields ⟨[(.builtin "object.__init_subclass__"), (.ref 91)]⟩), ⟨[]⟩⟩
def o94_3 (P : Params) : Obj := ⟨(.type "tuple"), none, (.seq ⟨[(.ref 66)]⟩ 0), ⟨[]⟩⟩
def o95_3 (P : Params) : Obj := ⟨(.type "builtin_function_or_method"), none, (.fields ⟨[(.builtin "type.__prepare__"), (.type "type")]⟩), ⟨[]⟩⟩
def o96_3 (P : Params) : Obj := ⟨(.type "dict"), none, (.dict ⟨[en P "__module__" 451 (sv "watchedways.errors" 383), en P "__qualname__" 453 (sv "BadNumber" 452), en P "__firstlineno__" 455 (.int (14) 454), en P "__static_attributes__" 456 (.ref 101)]⟩ 4), ⟨[]⟩⟩
def o97_3 (P : Params) : Obj := ⟨(.type "tuple"), none, (.seq ⟨[]⟩ 0), ⟨[]⟩⟩
def o98_3 (P : Params) : Obj := ⟨.none, none, (.fields ⟨[]⟩), ⟨[]⟩⟩
def o99_3 (P : Params) : Obj := ⟨(.type "code"), none, (.fields ⟨[(sv "BadNumber" 446), (sv "BadNumber" 447), (sv "/claim/cut.py" 448), (.int (14) 0), (.int (0) 0), (.int (0) 0), (.int (0) 0), (.int (0) 0), (.ref 97), (.bool false), (.int (370) 0), (.ref 98), .none, .none, .none, .none, (.int (449) 0), (.int (14) 0), (sv "/claim/cut.py" 450)]⟩), ⟨[]⟩⟩
def o100_3 (P : Params) : Obj := ⟨(.type "frame"), none, .plain, ⟨[(some (.ref 99)), (some (.ref 3)), (some (.ref 96)), none, (some (sv "watchedways.errors" 383)), none, (some (.ref 0))]⟩⟩
def o101_3 (P : Params) : Obj := ⟨(.type "tuple"), none, (.seq ⟨[]⟩ 0), ⟨[]⟩⟩
def o102_3 (P : Params) : Obj := ⟨(.type "dict"), none, (.dict ⟨[en P "__module__" 451 (sv "watchedways.errors" 383), en P "__firstlineno__" 455 (.int (14) 454), en P "__static_attributes__" 456 (.ref 101), en P "__doc__" 457 .none]⟩ 2), ⟨[]⟩⟩
def o103_3 (P : Params) : Obj := ⟨(.type "type"), none, (.cls ⟨(ns "BadNumber"), [(.ref 66)], [(.ref 103), (.ref 66), (.type "ValueError"), (.type "Exception"), (.type "BaseException"), (.type "object")], 102, (ns "BadNumber"), true, [], [], false, none, false⟩), ⟨[(some (.ref 94)), none, (some (sv "BadNumber" 444)), (some (sv "BadNumber" 452)), (some (.builtin "ValueError.__new__")), (some (.bool true))]⟩⟩
def o104_3 (P : Params) : Obj := ⟨(.type "super"), none, (.fields ⟨[(.ref 103), (.ref 103), (.ref 103)]⟩), ⟨[]⟩⟩
def o105_3 (P : Params) : Obj := ⟨(.type "builtin_function_or_method"), none, (.fields ⟨[(.builtin "object.__init_subclass__"), (.ref 103)]⟩), ⟨[]⟩⟩
def o106_3 (P : Params) : Obj := ⟨(.type "tuple"), none, (.seq ⟨[(.ref 66)]⟩ 0), ⟨[]⟩⟩
def o107_3 (P : Params) : Obj := ⟨(.type "builtin_function_or_method"), none, (.fields ⟨[(.builtin "type.__prepare__"), (.type "type")]⟩), ⟨[]⟩⟩
def o108_3 (P : Params) : Obj := ⟨(.type "dict"), none, (.dict ⟨[en P "__module__" 467 (sv "watchedways.errors" 383), en P "__qualname__" 469 (sv "TooMany" 468), en P "__firstlineno__" 471 (.int (16) 470), en P "__init__" 478 (.ref 119), en P "__static_attributes__" 479 (.ref 120)]⟩ 5), ⟨[]⟩⟩
def o109_3 (P : Params) : Obj := ⟨(.type "tuple"), none, (.seq ⟨[]⟩ 0), ⟨[]⟩⟩
def o110_3 (P : Params) : Obj := ⟨.none, none, (.fields ⟨[(.int (18) 0), (.int (4) 0), (.ref 118)]⟩), ⟨[]⟩⟩
def o111_3 (P : Params) : Obj := ⟨(.type "code"), none, (.fields ⟨[(sv "TooMany" 462), (sv "TooMany" 463), (sv "/claim/cut.py" 464), (.int (16) 0), (.int (0) 0), (.int (0) 0), (.int (0) 0), (.int (0) 0), (.ref 109), (.bool false), (.int (370) 0), (.ref 110), .none, .none, .none, .none, (.int (465) 0), (.int (16) 0), (sv "/claim/cut.py" 466)]⟩), ⟨[]⟩⟩
def o112_3 (P : Params) : Obj := ⟨(.type "frame"), none, .plain, ⟨[(some (.ref 111)), (some (.ref 3)), (some (.ref 108)), none, (some (sv "watchedways.errors" 383)), none, (some (.ref 0))]⟩⟩
def o113_3 (P : Params) : Obj := ⟨(.type "tuple"), none, (.seq ⟨[]⟩ 0), ⟨[]⟩⟩
def o114_3 (P : Params) : Obj := ⟨.none, none, (.fields ⟨[]⟩), ⟨[]⟩⟩
def o115_3 (P : Params) : Obj := ⟨(.type "tuple"), none, (.seq ⟨[(sv "self" 475)]⟩ 0), ⟨[]⟩⟩
def o116_3 (P : Params) : Obj := ⟨(.type "tuple"), none, (.seq ⟨[]⟩ 0), ⟨[]⟩⟩
def o117_3 (P : Params) : Obj := ⟨.none, none, (.func ⟨(ns "__init__"), (ns "TooMany.__init__"), defArgs (subS (top 7) 0), .stmts (defBody (subS (top 7) 0)), defScope (subS (top 7) 0), 0, [], .none, .none, .none, .none, none, .none, .none, 0⟩), ⟨[]⟩⟩
def o118_3 (P : Params) : Obj := ⟨(.type "code"), none, (.fields ⟨[(sv "__init__" 472), (sv "TooMany.__init__" 473), (sv "/claim/cut.py" 474), (.int (18) 0), (.int (1) 0), (.int (0) 0), (.int (0) 0), (.int (3) 0), (.ref 113), (.bool true), (.int (370) 0), (.ref 114), .none, (.ref 115), (.ref 116), (.ref 117), (.int (476) 0), (.int (18) 0), (sv "/claim/cut.py" 477)]⟩), ⟨[]⟩⟩
def o119_3 (P : Params) : Obj := ⟨(.type "function"), none, (.func ⟨(ns "__init__"), (ns "TooMany.__init__"), defArgs (subS (top 7) 0), .stmts (defBody (subS (top 7) 0)), defScope (subS (top 7) 0), 3, [], .none, .none, .none, (sv "watchedways.errors" 383), none, (.ref 118), .none, 0⟩), ⟨[]⟩⟩
def o120_3 (P : Params) : Obj := ⟨(.type "tuple"), none, (.seq ⟨[]⟩ 0), ⟨[]⟩⟩
def o121_3 (P : Params) : Obj := ⟨(.type "dict"), none, (.dict ⟨[en P "__module__" 467 (sv "watchedways.errors" 383), en P "__firstlineno__" 471 (.int (16) 470), en P "__init__" 478 (.ref 119), en P "__static_attributes__" 479 (.ref 120), en P "__doc__" 480 .none]⟩ 2), ⟨[]⟩⟩
def o122_3 (P : Params) : Obj := ⟨(.type "type"), none, (.cls ⟨(ns "TooMany"), [(.ref 66)], [(.ref 122), (.ref 66), (.type "ValueError"), (.type "Exception"), (.type "BaseException"), (.type "object")], 121, (ns "TooMany"), true, [], [], false, none, false⟩), ⟨[(some (.ref 106)), none, (some (sv "TooMany" 460)), (some (sv "TooMany" 468)), (some (.builtin "ValueError.__new__")), (some (.bool true))]⟩⟩
def o123_3 (P : Params) : Obj := ⟨(.type "super"), none, (.fields ⟨[(.ref 122), (.ref 122), (.ref 122)]⟩), ⟨[]⟩⟩
def o124_3 (P : Params) : Obj := ⟨(.type "builtin_function_or_method"), none, (.fields ⟨[(.builtin "object.__init_subclass__"), (.ref 122)]⟩), ⟨[]⟩⟩
def o125_3 (P : Params) : Obj := ⟨(.type "tuple"), none, (.seq ⟨[]⟩ 0), ⟨[]⟩⟩
def o126_3 (P : Params) : Obj := ⟨.none, none, (.fields ⟨[]⟩), ⟨[]⟩⟩
def o127_3 (P : Params) : Obj := ⟨(.type "tuple"), none, (.seq ⟨[(sv "thing" 488)]⟩ 0), ⟨[]⟩⟩
def o128_3 (P : Params) : Obj := ⟨(.type "tuple"), none, (.seq ⟨[]⟩ 0), ⟨[]⟩⟩
def o129_3 (P : Params) : Obj := ⟨.none, none, (.func ⟨(ns "is_integer"), (ns "is_integer"), defArgs (top 9), .stmts (defBody (top 9)), defScope (top 9), 0, [], .none, .none, .none, .none, none, .none, .none, 0⟩), ⟨[]⟩⟩
def o130_3 (P : Params) : Obj := ⟨(.type "code"), none, (.fields ⟨[(sv "is_integer" 485), (sv "is_integer" 486), (sv "/claim/cut.py" 487), (.int (21) 0), (.int (1) 0), (.int (0) 0), (.int (0) 0), (.int (3) 0), (.ref 125), (.bool true), (.int (370) 0), (.ref 126), .none, (.ref 127), (.ref 128), (.ref 129), (.int (489) 0), (.int (21) 0), (sv "/claim/cut.py" 490)]⟩), ⟨[]⟩⟩
def o131_3 (P : Params) : Obj := ⟨(.type "function"), none, (.func ⟨(ns "is_integer"), (ns "is_integer"), defArgs (top 9), .stmts (defBody (top 9)), defScope (top 9), 3, [], .none, .none, .none, (sv "watchedways.kinds" 483), none, (.ref 130), .none, 0⟩), ⟨[]⟩⟩
def o132_3 (P : Params) : Obj := ⟨(.type "tuple"), none, (.seq ⟨[]⟩ 0), ⟨[]⟩⟩
def o133_3 (P : Params) : Obj := ⟨.none, none, (.fields ⟨[]⟩), ⟨[]⟩⟩
def o134_3 (P : Params) : Obj := ⟨(.type "tuple"), none, (.seq ⟨[(sv "thing" 495)]⟩ 0), ⟨[]⟩⟩
def o135_3 (P : Params) : Obj := ⟨(.type "tuple"), none, (.seq ⟨[]⟩ 0), ⟨[]⟩⟩
def o136_3 (P : Params) : Obj := ⟨.none, none, (.func ⟨(ns "is_row"), (ns "is_row"), defArgs (top 10), .stmts (defBody (top 10)), defScope (top 10), 0, [], .none, .none, .none, .none, none, .none, .none, 0⟩), ⟨[]⟩⟩
def o137_3 (P : Params) : Obj := ⟨(.type "code"), none, (.fields ⟨[(sv "is_row" 492), (sv "is_row" 493), (sv "/claim/cut.py" 494), (.int (23) 0), (.int (1) 0), (.int (0) 0), (.int (0) 0), (.int (3) 0), (.ref 132), (.bool true), (.int (370) 0), (.ref 133), .none, (.ref 134), (.ref 135), (.ref 136), (.int (496) 0), (.int (23) 0), (sv "/claim/cut.py" 497)]⟩), ⟨[]⟩⟩
def o138_3 (P : Params) : Obj := ⟨(.type "function"), none, (.func ⟨(ns "is_row"), (ns "is_row"), defArgs (top 10), .stmts (defBody (top 10)), defScope (top 10), 3, [], .none, .none, .none, (sv "watchedways.kinds" 483), none, (.ref 137), .none, 0⟩), ⟨[]⟩⟩
def o139_3 (P : Params) : Obj := ⟨(.type "tuple"), none, (.seq ⟨[]⟩ 0), ⟨[]⟩⟩
def o140_3 (P : Params) : Obj := ⟨.none, none, (.fields ⟨[]⟩), ⟨[]⟩⟩
def o141_3 (P : Params) : Obj := ⟨(.type "tuple"), none, (.seq ⟨[(sv "joins" 508), (sv "products" 509), (sv "none" 510), (sv "one" 511)]⟩ 0), ⟨[]⟩⟩
def o142_3 (P : Params) : Obj := ⟨(.type "tuple"), none, (.seq ⟨[]⟩ 0), ⟨[]⟩⟩
def o143_3 (P : Params) : Obj := ⟨.none, none, (.func ⟨(ns "first_fault"), (ns "first_fault"), defArgs (top 14), .stmts (defBody (top 14)), defScope (top 14), 0, [], .none, .none, .none, .none, none, .none, .none, 0⟩), ⟨[]⟩⟩
def o144_3 (P : Params) : Obj := ⟨(.type "code"), none, (.fields ⟨[(sv "first_fault" 505), (sv "first_fault" 506), (sv "/claim/cut.py" 507), (.int (28) 0), (.int (4) 0), (.int (0) 0), (.int (0) 0), (.int (3) 0), (.ref 139), (.bool true), (.int (370) 0), (.ref 140), .none, (.ref 141), (.ref 142), (.ref 143), (.int (512) 0), (.int (28) 0), (sv "/claim/cut.py" 513)]⟩), ⟨[]⟩⟩
def o145_3 (P : Params) : Obj := ⟨(.type "function"), none, (.func ⟨(ns "first_fault"), (ns "first_fault"), defArgs (top 14), .stmts (defBody (top 14)), defScope (top 14), 3, [], .none, .none, .none, (sv "watchedways.faults" 499), none, (.ref 144), .none, 0⟩), ⟨[]⟩⟩
def o146_3 (P : Params) : Obj := ⟨(.type "tuple"), none, (.seq ⟨[]⟩ 0), ⟨[]⟩⟩
def o147_3 (P : Params) : Obj := ⟨.none, none, (.fields ⟨[]⟩), ⟨[]⟩⟩
def o148_3 (P : Params) : Obj := ⟨(.type "tuple"), none, (.seq ⟨[(sv "joins" 518), (sv "products" 519), (sv "none" 520), (sv "one" 521), (sv "many" 522)]⟩ 0), ⟨[]⟩⟩
def o149_3 (P : Params) : Obj := ⟨(.type "tuple"), none, (.seq ⟨[]⟩ 0), ⟨[]⟩⟩
def o150_3 (P : Params) : Obj := ⟨.none, none, (.func ⟨(ns "size_fault"), (ns "size_fault"), defArgs (top 15), .stmts (defBody (top 15)), defScope (top 15), 0, [], .none, .none, .none, .none, none, .none, .none, 0⟩), ⟨[]⟩⟩
def o151_3 (P : Params) : Obj := ⟨(.type "code"), none, (.fields ⟨[(sv "size_fault" 515), (sv "size_fault" 516), (sv "/claim/cut.py" 517), (.int (30) 0), (.int (4) 0), (.int (0) 0), (.int (0) 0), (.int (3) 0), (.ref 146), (.bool true), (.int (370) 0), (.ref 147), .none, (.ref 148), (.ref 149), (.ref 150), (.int (523) 0), (.int (30) 0), (sv "/claim/cut.py" 524)]⟩), ⟨[]⟩⟩
def o152_3 (P : Params) : Obj := ⟨(.type "function"), none, (.func ⟨(ns "size_fault"), (ns "size_fault"), defArgs (top 15), .stmts (defBody (top 15)), defScope (top 15), 3, [], .none, .none, .none, (sv "watchedways.faults" 499), none, (.ref 151), .none, 0⟩), ⟨[]⟩⟩
def o153_3 (P : Params) : Obj := ⟨(.type "tuple"), none, (.seq ⟨[]⟩ 0), ⟨[]⟩⟩
def o154_3 (P : Params) : Obj := ⟨.none, none, (.fields ⟨[]⟩), ⟨[]⟩⟩
def o155_3 (P : Params) : Obj := ⟨.none, none, (.func ⟨(ns "is_square"), (ns "is_square"), defArgs (top 16), .stmts (defBody (top 16)), defScope (top 16), 0, [], .none, .none, .none, .none, none, .none, .none, 0⟩), ⟨[]⟩⟩
def o156_3 (P : Params) : Obj := ⟨(.type "code"), none, (.fields ⟨[(sv "is_square" 526), (sv "is_square" 527), (sv "/claim/cut.py" 528), (.int (39) 0), (.int (2) 0), (.int (0) 0), (.int (0) 0), (.int (3) 0), (.ref 153), (.bool true), (.int (370) 0), (.ref 154), .none, .none, .none, (.ref 155), (.int (529) 0), (.int (39) 0), (sv "/claim/cut.py" 530)]⟩), ⟨[]⟩⟩
def o157_3 (P : Params) : Obj := ⟨(.type "function"), none, (.func ⟨(ns "is_square"), (ns "is_square"), defArgs (top 16), .stmts (defBody (top 16)), defScope (top 16), 3, [], .none, .none, .none, (sv "watchedways.faults" 499), none, (.ref 156), .none, 0⟩), ⟨[]⟩⟩
def o158_3 (P : Params) : Obj := ⟨(.type "tuple"), none, (.seq ⟨[]⟩ 0), ⟨[]⟩⟩
def o159_3 (P : Params) : Obj := ⟨.none, none, (.fields ⟨[]⟩), ⟨[]⟩⟩
def o160_3 (P : Params) : Obj := ⟨.none, none, (.func ⟨(ns "is_side"), (ns "is_side"), defArgs (top 17), .stmts (defBody (top 17)), defScope (top 17), 0, [], .none, .none, .none, .none, none, .none, .none, 0⟩), ⟨[]⟩⟩
def o161_3 (P : Params) : Obj := ⟨(.type "code"), none, (.fields ⟨[(sv "is_side" 532), (sv "is_side" 533), (sv "/claim/cut.py" 534), (.int (41) 0), (.int (2) 0), (.int (0) 0), (.int (0) 0), (.int (3) 0), (.ref 158), (.bool true), (.int (370) 0), (.ref 159), .none, .none, .none, (.ref 160), (.int (535) 0), (.int (41) 0), (sv "/claim/cut.py" 536)]⟩), ⟨[]⟩⟩
def o162_3 (P : Params) : Obj := ⟨(.type "function"), none, (.func ⟨(ns "is_side"), (ns "is_side"), defArgs (top 17), .stmts (defBody (top 17)), defScope (top 17), 3, [], .none, .none, .none, (sv "watchedways.faults" 499), none, (.ref 161), .none, 0⟩), ⟨[]⟩⟩
def o163_3 (P : Params) : Obj := ⟨(.type "tuple"), none, (.seq ⟨[]⟩ 0), ⟨[]⟩⟩
def o164_3 (P : Params) : Obj := ⟨.none, none, (.fields ⟨[]⟩), ⟨[]⟩⟩
def o165_3 (P : Params) : Obj := ⟨(.type "tuple"), none, (.seq ⟨[(sv "many" 541), (sv "thing" 542)]⟩ 0), ⟨[]⟩⟩
def o166_3 (P : Params) : Obj := ⟨(.type "tuple"), none, (.seq ⟨[]⟩ 0), ⟨[]⟩⟩
def o167_3 (P : Params) : Obj := ⟨.none, none, (.func ⟨(ns "is_below"), (ns "is_below"), defArgs (top 18), .stmts (defBody (top 18)), defScope (top 18), 0, [], .none, .none, .none, .none, none, .none, .none, 0⟩), ⟨[]⟩⟩
def o168_3 (P : Params) : Obj := ⟨(.type "code"), none, (.fields ⟨[(sv "is_below" 538), (sv "is_below" 539), (sv "/claim/cut.py" 540), (.int (43) 0), (.int (2) 0), (.int (0) 0), (.int (0) 0), (.int (3) 0), (.ref 163), (.bool true), (.int (370) 0), (.ref 164), .none, (.ref 165), (.ref 166), (.ref 167), (.int (543) 0), (.int (43) 0), (sv "/claim/cut.py" 544)]⟩), ⟨[]⟩⟩
def o169_3 (P : Params) : Obj := ⟨(.type "function"), none, (.func ⟨(ns "is_below"), (ns "is_below"), defArgs (top 18), .stmts (defBody (top 18)), defScope (top 18), 3, [], .none, .none, .none, (sv "watchedways.faults" 499), none, (.ref 168), .none, 0⟩), ⟨[]⟩⟩
def o170_3 (P : Params) : Obj := ⟨(.type "tuple"), none, (.seq ⟨[]⟩ 0), ⟨[]⟩⟩
def o171_3 (P : Params) : Obj := ⟨.none, none, (.fields ⟨[]⟩), ⟨[]⟩⟩
def o172_3 (P : Params) : Obj := ⟨(.type "tuple"), none, (.seq ⟨[(sv "joins" 549), (sv "products" 550), (sv "none" 551), (sv "a" 552)]⟩ 0), ⟨[]⟩⟩
def o173_3 (P : Params) : Obj := ⟨(.type "tuple"), none, (.seq ⟨[]⟩ 0), ⟨[]⟩⟩
def o174_3 (P : Params) : Obj := ⟨.none, none, (.func ⟨(ns "none_fault"), (ns "none_fault"), defArgs (top 19), .stmts (defBody (top 19)), defScope (top 19), 0, [], .none, .none, .none, .none, none, .none, .none, 0⟩), ⟨[]⟩⟩
def o175_3 (P : Params) : Obj := ⟨(.type "code"), none, (.fields ⟨[(sv "none_fault" 546), (sv "none_fault" 547), (sv "/claim/cut.py" 548), (.int (45) 0), (.int (3) 0), (.int (0) 0), (.int (0) 0), (.int (3) 0), (.ref 170), (.bool true), (.int (370) 0), (.ref 171), .none, (.ref 172), (.ref 173), (.ref 174), (.int (553) 0), (.int (45) 0), (sv "/claim/cut.py" 554)]⟩), ⟨[]⟩⟩
def o176_3 (P : Params) : Obj := ⟨(.type "function"), none, (.func ⟨(ns "none_fault"), (ns "none_fault"), defArgs (top 19), .stmts (defBody (top 19)), defScope (top 19), 3, [], .none, .none, .none, (sv "watchedways.faults" 499), none, (.ref 175), .none, 0⟩), ⟨[]⟩⟩
def o177_3 (P : Params) : Obj := ⟨(.type "tuple"), none, (.seq ⟨[]⟩ 0), ⟨[]⟩⟩
def o178_3 (P : Params) : Obj := ⟨.none, none, (.fields ⟨[]⟩), ⟨[]⟩⟩
def o179_3 (P : Params) : Obj := ⟨(.type "tuple"), none, (.seq ⟨[(sv "products" 559), (sv "one" 560), (sv "a" 561)]⟩ 0), ⟨[]⟩⟩
def o180_3 (P : Params) : Obj := ⟨(.type "tuple"), none, (.seq ⟨[]⟩ 0), ⟨[]⟩⟩
def o181_3 (P : Params) : Obj := ⟨.none, none, (.func ⟨(ns "one_fault"), (ns "one_fault"), defArgs (top 20), .stmts (defBody (top 20)), defScope (top 20), 0, [], .none, .none, .none, .none, none, .none, .none, 0⟩), ⟨[]⟩⟩
def o182_3 (P : Params) : Obj := ⟨(.type "code"), none, (.fields ⟨[(sv "one_fault" 556), (sv "one_fault" 557), (sv "/claim/cut.py" 558), (.int (52) 0), (.int (2) 0), (.int (0) 0), (.int (0) 0), (.int (3) 0), (.ref 177), (.bool true), (.int (370) 0), (.ref 178), .none, (.ref 179), (.ref 180), (.ref 181), (.int (562) 0), (.int (52) 0), (sv "/claim/cut.py" 563)]⟩), ⟨[]⟩⟩
def o183_3 (P : Params) : Obj := ⟨(.type "function"), none, (.func ⟨(ns "one_fault"), (ns "one_fault"), defArgs (top 20), .stmts (defBody (top 20)), defScope (top 20), 3, [], .none, .none, .none, (sv "watchedways.faults" 499), none, (.ref 182), .none, 0⟩), ⟨[]⟩⟩
def o184_3 (P : Params) : Obj := ⟨(.type "tuple"), none, (.seq ⟨[]⟩ 0), ⟨[]⟩⟩
def o185_3 (P : Params) : Obj := ⟨.none, none, (.fields ⟨[]⟩), ⟨[]⟩⟩
def o186_3 (P : Params) : Obj := ⟨(.type "tuple"), none, (.seq ⟨[(sv "joins" 568), (sv "a" 569)]⟩ 0), ⟨[]⟩⟩
def o187_3 (P : Params) : Obj := ⟨(.type "tuple"), none, (.seq ⟨[]⟩ 0), ⟨[]⟩⟩
def o188_3 (P : Params) : Obj := ⟨.none, none, (.func ⟨(ns "idle_fault"), (ns "idle_fault"), defArgs (top 21), .stmts (defBody (top 21)), defScope (top 21), 0, [], .none, .none, .none, .none, none, .none, .none, 0⟩), ⟨[]⟩⟩
def o189_3 (P : Params) : Obj := ⟨(.type "code"), none, (.fields ⟨[(sv "idle_fault" 565), (sv "idle_fault" 566), (sv "/claim/cut.py" 567), (.int (57) 0), (.int (1) 0), (.int (0) 0), (.int (0) 0), (.int (3) 0), (.ref 184), (.bool true), (.int (370) 0), (.ref 185), .none, (.ref 186), (.ref 187), (.ref 188), (.int (570) 0), (.int (57) 0), (sv "/claim/cut.py" 571)]⟩), ⟨[]⟩⟩
def o190_3 (P : Params) : Obj := ⟨(.type "function"), none, (.func ⟨(ns "idle_fault"), (ns "idle_fault"), defArgs (top 21), .stmts (defBody (top 21)), defScope (top 21), 3, [], .none, .none, .none, (sv "watchedways.faults" 499), none, (.ref 189), .none, 0⟩), ⟨[]⟩⟩
def o191_3 (P : Params) : Obj := ⟨(.type "tuple"), none, (.seq ⟨[]⟩ 0), ⟨[]⟩⟩
def o192_3 (P : Params) : Obj := ⟨.none, none, (.fields ⟨[]⟩), ⟨[]⟩⟩
def o193_3 (P : Params) : Obj := ⟨(.type "tuple"), none, (.seq ⟨[(sv "joins" 576), (sv "a" 577), (sv "b" 578)]⟩ 0), ⟨[]⟩⟩
def o194_3 (P : Params) : Obj := ⟨(.type "tuple"), none, (.seq ⟨[]⟩ 0), ⟨[]⟩⟩
def o195_3 (P : Params) : Obj := ⟨.none, none, (.func ⟨(ns "swap_fault"), (ns "swap_fault"), defArgs (top 22), .stmts (defBody (top 22)), defScope (top 22), 0, [], .none, .none, .none, .none, none, .none, .none, 0⟩), ⟨[]⟩⟩
def o196_3 (P : Params) : Obj := ⟨(.type "code"), none, (.fields ⟨[(sv "swap_fault" 573), (sv "swap_fault" 574), (sv "/claim/cut.py" 575), (.int (62) 0), (.int (1) 0), (.int (0) 0), (.int (0) 0), (.int (3) 0), (.ref 191), (.bool true), (.int (370) 0), (.ref 192), .none, (.ref 193), (.ref 194), (.ref 195), (.int (579) 0), (.int (62) 0), (sv "/claim/cut.py" 580)]⟩), ⟨[]⟩⟩
def o197_3 (P : Params) : Obj := ⟨(.type "function"), none, (.func ⟨(ns "swap_fault"), (ns "swap_fault"), defArgs (top 22), .stmts (defBody (top 22)), defScope (top 22), 3, [], .none, .none, .none, (sv "watchedways.faults" 499), none, (.ref 196), .none, 0⟩), ⟨[]⟩⟩
def o198_3 (P : Params) : Obj := ⟨(.type "tuple"), none, (.seq ⟨[]⟩ 0), ⟨[]⟩⟩
def o199_3 (P : Params) : Obj := ⟨.none, none, (.fields ⟨[]⟩), ⟨[]⟩⟩
def o200_3 (P : Params) : Obj := ⟨(.type "tuple"), none, (.seq ⟨[(sv "word" 585), (sv "table" 586), (sv "worths" 587), (sv "a" 588), (sv "b" 589), (sv "c" 590)]⟩ 0), ⟨[]⟩⟩
def o201_3 (P : Params) : Obj := ⟨(.type "tuple"), none, (.seq ⟨[]⟩ 0), ⟨[]⟩⟩
def o202_3 (P : Params) : Obj := ⟨.none, none, (.func ⟨(ns "grouping_fault"), (ns "grouping_fault"), defArgs (top 23), .stmts (defBody (top 23)), defScope (top 23), 0, [], .none, .none, .none, .none, none, .none, .none, 0⟩), ⟨[]⟩⟩
def o203_3 (P : Params) : Obj := ⟨(.type "code"), none, (.fields ⟨[(sv "grouping_fault" 582), (sv "grouping_fault" 583), (sv "/claim/cut.py" 584), (.int (68) 0), (.int (2) 0), (.int (0) 0), (.int (0) 0), (.int (3) 0), (.ref 198), (.bool true), (.int (370) 0), (.ref 199), .none, (.ref 200), (.ref 201), (.ref 202), (.int (591) 0), (.int (68) 0), (sv "/claim/cut.py" 592)]⟩), ⟨[]⟩⟩
def o204_3 (P : Params) : Obj := ⟨(.type "function"), none, (.func ⟨(ns "grouping_fault"), (ns "grouping_fault"), defArgs (top 23), .stmts (defBody (top 23)), defScope (top 23), 3, [], .none, .none, .none, (sv "watchedways.faults" 499), none, (.ref 203), .none, 0⟩), ⟨[]⟩⟩
def o205_3 (P : Params) : Obj := ⟨(.type "tuple"), none, (.seq ⟨[]⟩ 0), ⟨[]⟩⟩
def o206_3 (P : Params) : Obj := ⟨.none, none, (.fields ⟨[]⟩), ⟨[]⟩⟩
def o207_3 (P : Params) : Obj := ⟨(.type "tuple"), none, (.seq ⟨[(sv "joins" 597), (sv "products" 598), (sv "worths" 599), (sv "a" 600), (sv "b" 601), (sv "c" 602), (sv "joined" 603)]⟩ 0), ⟨[]⟩⟩
def o208_3 (P : Params) : Obj := ⟨(.type "tuple"), none, (.seq ⟨[]⟩ 0), ⟨[]⟩⟩
def o209_3 (P : Params) : Obj := ⟨.none, none, (.func ⟨(ns "over_fault"), (ns "over_fault"), defArgs (top 24), .stmts (defBody (top 24)), defScope (top 24), 0, [], .none, .none, .none, .none, none, .none, .none, 0⟩), ⟨[]⟩⟩
def o210_3 (P : Params) : Obj := ⟨(.type "code"), none, (.fields ⟨[(sv "over_fault" 594), (sv "over_fault" 595), (sv "/claim/cut.py" 596), (.int (76) 0), (.int (2) 0), (.int (0) 0), (.int (0) 0), (.int (3) 0), (.ref 205), (.bool true), (.int (370) 0), (.ref 206), .none, (.ref 207), (.ref 208), (.ref 209), (.int (604) 0), (.int (76) 0), (sv "/claim/cut.py" 605)]⟩), ⟨[]⟩⟩
def o211_3 (P : Params) : Obj := ⟨(.type "function"), none, (.func ⟨(ns "over_fault"), (ns "over_fault"), defArgs (top 24), .stmts (defBody (top 24)), defScope (top 24), 3, [], .none, .none, .none, (sv "watchedways.faults" 499), none, (.ref 210), .none, 0⟩), ⟨[]⟩⟩
def o212_3 (P : Params) : Obj := ⟨(.type "tuple"), none, (.seq ⟨[]⟩ 0), ⟨[]⟩⟩
def o213_3 (P : Params) : Obj := ⟨.none, none, (.fields ⟨[]⟩), ⟨[]⟩⟩
def o214_3 (P : Params) : Obj := ⟨(.type "tuple"), none, (.seq ⟨[(sv "none" 610), (sv "one" 611)]⟩ 0), ⟨[]⟩⟩
def o215_3 (P : Params) : Obj := ⟨(.type "tuple"), none, (.seq ⟨[]⟩ 0), ⟨[]⟩⟩
def o216_3 (P : Params) : Obj := ⟨.none, none, (.func ⟨(ns "same_fault"), (ns "same_fault"), defArgs (top 25), .stmts (defBody (top 25)), defScope (top 25), 0, [], .none, .none, .none, .none, none, .none, .none, 0⟩), ⟨[]⟩⟩
def o217_3 (P : Params) : Obj := ⟨(.type "code"), none, (.fields ⟨[(sv "same_fault" 607), (sv "same_fault" 608), (sv "/claim/cut.py" 609), (.int (87) 0), (.int (2) 0), (.int (0) 0), (.int (0) 0), (.int (3) 0), (.ref 212), (.bool true), (.int (370) 0), (.ref 213), .none, (.ref 214), (.ref 215), (.ref 216), (.int (612) 0), (.int (87) 0), (sv "/claim/cut.py" 613)]⟩), ⟨[]⟩⟩
def o218_3 (P : Params) : Obj := ⟨(.type "function"), none, (.func ⟨(ns "same_fault"), (ns "same_fault"), defArgs (top 25), .stmts (defBody (top 25)), defScope (top 25), 3, [], .none, .none, .none, (sv "watchedways.faults" 499), none, (.ref 217), .none, 0⟩), ⟨[]⟩⟩
def o219_3 (P : Params) : Obj := ⟨(.type "tuple"), none, (.seq ⟨[]⟩ 0), ⟨[]⟩⟩
def o220_3 (P : Params) : Obj := ⟨.none, none, (.fields ⟨[]⟩), ⟨[]⟩⟩
def o221_3 (P : Params) : Obj := ⟨(.type "tuple"), none, (.seq ⟨[(sv "reckoning" 620), (sv "first" 621), (sv "second" 622), (sv "thing" 623)]⟩ 0), ⟨[]⟩⟩
def o222_3 (P : Params) : Obj := ⟨(.type "tuple"), none, (.seq ⟨[]⟩ 0), ⟨[]⟩⟩
def o223_3 (P : Params) : Obj := ⟨.none, none, (.func ⟨(ns "check_worths"), (ns "check_worths"), defArgs (top 27), .stmts (defBody (top 27)), defScope (top 27), 0, [], .none, .none, .none, .none, none, .none, .none, 0⟩), ⟨[]⟩⟩
def o224_3 (P : Params) : Obj := ⟨(.type "code"), none, (.fields ⟨[(sv "check_worths" 617), (sv "check_worths" 618), (sv "/claim/cut.py" 619), (.int (90) 0), (.int (3) 0), (.int (0) 0), (.int (0) 0), (.int (3) 0), (.ref 219), (.bool true), (.int (370) 0), (.ref 220), .none, (.ref 221), (.ref 222), (.ref 223), (.int (624) 0), (.int (90) 0), (sv "/claim/cut.py" 625)]⟩), ⟨[]⟩⟩
def o225_3 (P : Params) : Obj := ⟨(.type "function"), none, (.func ⟨(ns "check_worths"), (ns "check_worths"), defArgs (top 27), .stmts (defBody (top 27)), defScope (top 27), 3, [], .none, .none, .none, (sv "watchedways.worths" 615), none, (.ref 224), .none, 0⟩), ⟨[]⟩⟩
def o226_3 (P : Params) : Obj := ⟨(.type "tuple"), none, (.seq ⟨[]⟩ 0), ⟨[]⟩⟩
def o227_3 (P : Params) : Obj := ⟨(.type "builtin_function_or_method"), none, (.fields ⟨[(.builtin "type.__prepare__"), (.type "type")]⟩), ⟨[]⟩⟩
def o228_3 (P : Params) : Obj := ⟨(.type "dict"), none, (.dict ⟨[en P "__module__" 636 (sv "watchedways.reckonings" 627), en P "__qualname__" 638 (sv "Reckoning" 637), en P "__firstlineno__" 640 (.int (95) 639), en P "__init__" 646 (.ref 237), en P "__eq__" 654 (.ref 244), en P "is_worth" 662 (.ref 251), en P "beneath" 671 (.ref 258), en P "join" 680 (.ref 265), en P "times" 689 (.ref 272), en P "meet" 698 (.ref 279), en P "greatest" 705 (.ref 286), en P "left" 714 (.ref 293), en P "right" 723 (.ref 300), en P "_joined" 733 (.ref 307), en P "_meet" 739 (.ref 312), en P "_left" 745 (.ref 317), en P "_right" 751 (.ref 322), en P "__static_attributes__" 759 (.ref 323)]⟩ 18), ⟨[]⟩⟩
def o229_3 (P : Params) : Obj := ⟨(.type "tuple"), none, (.seq ⟨[]⟩ 0), ⟨[]⟩⟩
def o230_3 (P : Params) : Obj := ⟨.none, none, (.fields ⟨[(.int (97) 0), (.int (4) 0), (.ref 236), (.int (110) 0), (.int (4) 0), (.ref 243), (.int (117) 0), (.int (4) 0), (.ref 250), (.int (120) 0), (.int (4) 0), (.ref 257), (.int (123) 0), (.int (4) 0), (.ref 264), (.int (127) 0), (.int (4) 0), (.ref 271), (.int (130) 0), (.int (4) 0), (.ref 278), (.int (133) 0), (.int (4) 0), (.ref 285), (.int (136) 0), (.int (4) 0), (.ref 292), (.int (139) 0), (.int (4) 0), (.ref 299), (.int (142) 0), (.int (4) 0), (.ref 306), (.int (148) 0), (.int (4) 0), (.ref 311), (.int (152) 0), (.int (4) 0), (.ref 316), (.int (156) 0), (.int (4) 0), (.ref 321)]⟩), ⟨[]⟩⟩
def o231_3 (P : Params) : Obj := ⟨(.type "code"), none, (.fields ⟨[(sv "Reckoning" 631), (sv "Reckoning" 632), (sv "/claim/cut.py" 633), (.int (95) 0), (.int (0) 0), (.int (0) 0), (.int (0) 0), (.int (0) 0), (.ref 229), (.bool false), (.int (370) 0), (.ref 230), .none, .none, .none, .none, (.int (634) 0), (.int (95) 0), (sv "/claim/cut.py" 635)]⟩), ⟨[]⟩⟩
def o232_3 (P : Params) : Obj := ⟨(.type "frame"), none, .plain, ⟨[(some (.ref 231)), (some (.ref 3)), (some (.ref 228)), none, (some (sv "watchedways.reckonings" 627)), none, (some (.ref 0))]⟩⟩
def o233_3 (P : Params) : Obj := ⟨(.type "tuple"), none, (.seq ⟨[]⟩ 0), ⟨[]⟩⟩
def o234_3 (P : Params) : Obj := ⟨.none, none, (.fields ⟨[]⟩), ⟨[]⟩⟩
def o235_3 (P : Params) : Obj := ⟨.none, none, (.func ⟨(ns "__init__"), (ns "Reckoning.__init__"), defArgs (subS (top 29) 0), .stmts (defBody (subS (top 29) 0)), defScope (subS (top 29) 0), 0, [], .none, .none, .none, .none, none, .none, .none, 0⟩), ⟨[]⟩⟩
def o236_3 (P : Params) : Obj := ⟨(.type "code"), none, (.fields ⟨[(sv "__init__" 641), (sv "Reckoning.__init__" 642), (sv "/claim/cut.py" 643), (.int (97) 0), (.int (5) 0), (.int (0) 0), (.int (0) 0), (.int (3) 0), (.ref 233), (.bool true), (.int (370) 0), (.ref 234), .none, .none, .none, (.ref 235), (.int (644) 0), (.int (97) 0), (sv "/claim/cut.py" 645)]⟩), ⟨[]⟩⟩
def o237_3 (P : Params) : Obj := ⟨(.type "function"), none, (.func ⟨(ns "__init__"), (ns "Reckoning.__init__"), defArgs (subS (top 29) 0), .stmts (defBody (subS (top 29) 0)), defScope (subS (top 29) 0), 3, [], .none, .none, .none, (sv "watchedways.reckonings" 627), none, (.ref 236), .none, 0⟩), ⟨[]⟩⟩
def o238_3 (P : Params) : Obj := ⟨(.type "tuple"), none, (.seq ⟨[]⟩ 0), ⟨[]⟩⟩
def o239_3 (P : Params) : Obj := ⟨.none, none, (.fields ⟨[]⟩), ⟨[]⟩⟩
def o240_3 (P : Params) : Obj := ⟨(.type "tuple"), none, (.seq ⟨[(sv "self" 650), (sv "other" 651)]⟩ 0), ⟨[]⟩⟩
def o241_3 (P : Params) : Obj := ⟨(.type "tuple"), none, (.seq ⟨[]⟩ 0), ⟨[]⟩⟩
def o242_3 (P : Params) : Obj := ⟨.none, none, (.func ⟨(ns "__eq__"), (ns "Reckoning.__eq__"), defArgs (subS (top 29) 1), .stmts (defBody (subS (top 29) 1)), defScope (subS (top 29) 1), 0, [], .none, .none, .none, .none, none, .none, .none, 0⟩), ⟨[]⟩⟩
def o243_3 (P : Params) : Obj := ⟨(.type "code"), none, (.fields ⟨[(sv "__eq__" 647), (sv "Reckoning.__eq__" 648), (sv "/claim/cut.py" 649), (.int (110) 0), (.int (2) 0), (.int (0) 0), (.int (0) 0), (.int (3) 0), (.ref 238), (.bool true), (.int (370) 0), (.ref 239), .none, (.ref 240), (.ref 241), (.ref 242), (.int (652) 0), (.int (110) 0), (sv "/claim/cut.py" 653)]⟩), ⟨[]⟩⟩
def o244_3 (P : Params) : Obj := ⟨(.type "function"), none, (.func ⟨(ns "__eq__"), (ns "Reckoning.__eq__"), defArgs (subS (top 29) 1), .stmts (defBody (subS (top 29) 1)), defScope (subS (top 29) 1), 3, [], .none, .none, .none, (sv "watchedways.reckonings" 627), none, (.ref 243), .none, 0⟩), ⟨[]⟩⟩
def o245_3 (P : Params) : Obj := ⟨(.type "tuple"), none, (.seq ⟨[]⟩ 0), ⟨[]⟩⟩
def o246_3 (P : Params) : Obj := ⟨.none, none, (.fields ⟨[]⟩), ⟨[]⟩⟩
def o247_3 (P : Params) : Obj := ⟨(.type "tuple"), none, (.seq ⟨[(sv "self" 658), (sv "thing" 659)]⟩ 0), ⟨[]⟩⟩
def o248_3 (P : Params) : Obj := ⟨(.type "tuple"), none, (.seq ⟨[]⟩ 0), ⟨[]⟩⟩
def o249_3 (P : Params) : Obj := ⟨.none, none, (.func ⟨(ns "is_worth"), (ns "Reckoning.is_worth"), defArgs (subS (top 29) 2), .stmts (defBody (subS (top 29) 2)), defScope (subS (top 29) 2), 0, [], .none, .none, .none, .none, none, .none, .none, 0⟩), ⟨[]⟩⟩
def o250_3 (P : Params) : Obj := ⟨(.type "code"), none, (.fields ⟨[(sv "is_worth" 655), (sv "Reckoning.is_worth" 656), (sv "/claim/cut.py" 657), (.int (117) 0), (.int (2) 0), (.int (0) 0), (.int (0) 0), (.int (3) 0), (.ref 245), (.bool true), (.int (370) 0), (.ref 246), .none, (.ref 247), (.ref 248), (.ref 249), (.int (660) 0), (.int (117) 0), (sv "/claim/cut.py" 661)]⟩), ⟨[]⟩⟩
def o251_3 (P : Params) : Obj := ⟨(.type "function"), none, (.func ⟨(ns "is_worth"), (ns "Reckoning.is_worth"), defArgs (subS (top 29) 2), .stmts (defBody (subS (top 29) 2)), defScope (subS (top 29) 2), 3, [], .none, .none, .none, (sv "watchedways.reckonings" 627), none, (.ref 250), .none, 0⟩), ⟨[]⟩⟩
def o252_3 (P : Params) : Obj := ⟨(.type "tuple"), none, (.seq ⟨[]⟩ 0), ⟨[]⟩⟩
def o253_3 (P : Params) : Obj := ⟨.none, none, (.fields ⟨[]⟩), ⟨[]⟩⟩
def o254_3 (P : Params) : Obj := ⟨(.type "tuple"), none, (.seq ⟨[(sv "self" 666), (sv "a" 667), (sv "b" 668)]⟩ 0), ⟨[]⟩⟩
def o255_3 (P : Params) : Obj := ⟨(.type "tuple"), none, (.seq ⟨[]⟩ 0), ⟨[]⟩⟩
def o256_3 (P : Params) : Obj := ⟨.none, none, (.func ⟨(ns "beneath"), (ns "Reckoning.beneath"), defArgs (subS (top 29) 3), .stmts (defBody (subS (top 29) 3)), defScope (subS (top 29) 3), 0, [], .none, .none, .none, .none, none, .none, .none, 0⟩), ⟨[]⟩⟩
def o257_3 (P : Params) : Obj := ⟨(.type "code"), none, (.fields ⟨[(sv "beneath" 663), (sv "Reckoning.beneath" 664), (sv "/claim/cut.py" 665), (.int (120) 0), (.int (3) 0), (.int (0) 0), (.int (0) 0), (.int (3) 0), (.ref 252), (.bool true), (.int (370) 0), (.ref 253), .none, (.ref 254), (.ref 255), (.ref 256), (.int (669) 0), (.int (120) 0), (sv "/claim/cut.py" 670)]⟩), ⟨[]⟩⟩
def o258_3 (P : Params) : Obj := ⟨(.type "function"), none, (.func ⟨(ns "beneath"), (ns "Reckoning.beneath"), defArgs (subS (top 29) 3), .stmts (defBody (subS (top 29) 3)), defScope (subS (top 29) 3), 3, [], .none, .none, .none, (sv "watchedways.reckonings" 627), none, (.ref 257), .none, 0⟩), ⟨[]⟩⟩
def o259_3 (P : Params) : Obj := ⟨(.type "tuple"), none, (.seq ⟨[]⟩ 0), ⟨[]⟩⟩
def o260_3 (P : Params) : Obj := ⟨.none, none, (.fields ⟨[]⟩), ⟨[]⟩⟩
def o261_3 (P : Params) : Obj := ⟨(.type "tuple"), none, (.seq ⟨[(sv "self" 675), (sv "a" 676), (sv "b" 677)]⟩ 0), ⟨[]⟩⟩
def o262_3 (P : Params) : Obj := ⟨(.type "tuple"), none, (.seq ⟨[]⟩ 0), ⟨[]⟩⟩
def o263_3 (P : Params) : Obj := ⟨.none, none, (.func ⟨(ns "join"), (ns "Reckoning.join"), defArgs (subS (top 29) 4), .stmts (defBody (subS (top 29) 4)), defScope (subS (top 29) 4), 0, [], .none, .none, .none, .none, none, .none, .none, 0⟩), ⟨[]⟩⟩
def o264_3 (P : Params) : Obj := ⟨(.type "code"), none, (.fields ⟨[(sv "join" 672), (sv "Reckoning.join" 673), (sv "/claim/cut.py" 674), (.int (123) 0), (.int (3) 0), (.int (0) 0), (.int (0) 0), (.int (3) 0), (.ref 259), (.bool true), (.int (370) 0), (.ref 260), .none, (.ref 261), (.ref 262), (.ref 263), (.int (678) 0), (.int (123) 0), (sv "/claim/cut.py" 679)]⟩), ⟨[]⟩⟩
def o265_3 (P : Params) : Obj := ⟨(.type "function"), none, (.func ⟨(ns "join"), (ns "Reckoning.join"), defArgs (subS (top 29) 4), .stmts (defBody (subS (top 29) 4)), defScope (subS (top 29) 4), 3, [], .none, .none, .none, (sv "watchedways.reckonings" 627), none, (.ref 264), .none, 0⟩), ⟨[]⟩⟩
def o266_3 (P : Params) : Obj := ⟨(.type "tuple"), none, (.seq ⟨[]⟩ 0), ⟨[]⟩⟩
def o267_3 (P : Params) : Obj := ⟨.none, none, (.fields ⟨[]⟩), ⟨[]⟩⟩
def o268_3 (P : Params) : Obj := ⟨(.type "tuple"), none, (.seq ⟨[(sv "self" 684), (sv "a" 685), (sv "b" 686)]⟩ 0), ⟨[]⟩⟩
def o269_3 (P : Params) : Obj := ⟨(.type "tuple"), none, (.seq ⟨[]⟩ 0), ⟨[]⟩⟩
def o270_3 (P : Params) : Obj := ⟨.none, none, (.func ⟨(ns "times"), (ns "Reckoning.times"), defArgs (subS (top 29) 5), .stmts (defBody (subS (top 29) 5)), defScope (subS (top 29) 5), 0, [], .none, .none, .none, .none, none, .none, .none, 0⟩), ⟨[]⟩⟩
def o271_3 (P : Params) : Obj := ⟨(.type "code"), none, (.fields ⟨[(sv "times" 681), (sv "Reckoning.times" 682), (sv "/claim/cut.py" 683), (.int (127) 0), (.int (3) 0), (.int (0) 0), (.int (0) 0), (.int (3) 0), (.ref 266), (.bool true), (.int (370) 0), (.ref 267), .none, (.ref 268), (.ref 269), (.ref 270), (.int (687) 0), (.int (127) 0), (sv "/claim/cut.py" 688)]⟩), ⟨[]⟩⟩
def o272_3 (P : Params) : Obj := ⟨(.type "function"), none, (.func ⟨(ns "times"), (ns "Reckoning.times"), defArgs (subS (top 29) 5), .stmts (defBody (subS (top 29) 5)), defScope (subS (top 29) 5), 3, [], .none, .none, .none, (sv "watchedways.reckonings" 627), none, (.ref 271), .none, 0⟩), ⟨[]⟩⟩
def o273_3 (P : Params) : Obj := ⟨(.type "tuple"), none, (.seq ⟨[]⟩ 0), ⟨[]⟩⟩
def o274_3 (P : Params) : Obj := ⟨.none, none, (.fields ⟨[]⟩), ⟨[]⟩⟩
def o275_3 (P : Params) : Obj := ⟨(.type "tuple"), none, (.seq ⟨[(sv "self" 693), (sv "a" 694), (sv "b" 695)]⟩ 0), ⟨[]⟩⟩
def o276_3 (P : Params) : Obj := ⟨(.type "tuple"), none, (.seq ⟨[]⟩ 0), ⟨[]⟩⟩
def o277_3 (P : Params) : Obj := ⟨.none, none, (.func ⟨(ns "meet"), (ns "Reckoning.meet"), defArgs (subS (top 29) 6), .stmts (defBody (subS (top 29) 6)), defScope (subS (top 29) 6), 0, [], .none, .none, .none, .none, none, .none, .none, 0⟩), ⟨[]⟩⟩
def o278_3 (P : Params) : Obj := ⟨(.type "code"), none, (.fields ⟨[(sv "meet" 690), (sv "Reckoning.meet" 691), (sv "/claim/cut.py" 692), (.int (130) 0), (.int (3) 0), (.int (0) 0), (.int (0) 0), (.int (3) 0), (.ref 273), (.bool true), (.int (370) 0), (.ref 274), .none, (.ref 275), (.ref 276), (.ref 277), (.int (696) 0), (.int (130) 0), (sv "/claim/cut.py" 697)]⟩), ⟨[]⟩⟩
def o279_3 (P : Params) : Obj := ⟨(.type "function"), none, (.func ⟨(ns "meet"), (ns "Reckoning.meet"), defArgs (subS (top 29) 6), .stmts (defBody (subS (top 29) 6)), defScope (subS (top 29) 6), 3, [], .none, .none, .none, (sv "watchedways.reckonings" 627), none, (.ref 278), .none, 0⟩), ⟨[]⟩⟩
def o280_3 (P : Params) : Obj := ⟨(.type "tuple"), none, (.seq ⟨[]⟩ 0), ⟨[]⟩⟩
def o281_3 (P : Params) : Obj := ⟨.none, none, (.fields ⟨[]⟩), ⟨[]⟩⟩
def o282_3 (P : Params) : Obj := ⟨(.type "tuple"), none, (.seq ⟨[(sv "self" 702)]⟩ 0), ⟨[]⟩⟩
def o283_3 (P : Params) : Obj := ⟨(.type "tuple"), none, (.seq ⟨[]⟩ 0), ⟨[]⟩⟩
def o284_3 (P : Params) : Obj := ⟨.none, none, (.func ⟨(ns "greatest"), (ns "Reckoning.greatest"), defArgs (subS (top 29) 7), .stmts (defBody (subS (top 29) 7)), defScope (subS (top 29) 7), 0, [], .none, .none, .none, .none, none, .none, .none, 0⟩), ⟨[]⟩⟩
def o285_3 (P : Params) : Obj := ⟨(.type "code"), none, (.fields ⟨[(sv "greatest" 699), (sv "Reckoning.greatest" 700), (sv "/claim/cut.py" 701), (.int (133) 0), (.int (1) 0), (.int (0) 0), (.int (0) 0), (.int (3) 0), (.ref 280), (.bool true), (.int (370) 0), (.ref 281), .none, (.ref 282), (.ref 283), (.ref 284), (.int (703) 0), (.int (133) 0), (sv "/claim/cut.py" 704)]⟩), ⟨[]⟩⟩
def o286_3 (P : Params) : Obj := ⟨(.type "function"), none, (.func ⟨(ns "greatest"), (ns "Reckoning.greatest"), defArgs (subS (top 29) 7), .stmts (defBody (subS (top 29) 7)), defScope (subS (top 29) 7), 3, [], .none, .none, .none, (sv "watchedways.reckonings" 627), none, (.ref 285), .none, 0⟩), ⟨[]⟩⟩
def o287_3 (P : Params) : Obj := ⟨(.type "tuple"), none, (.seq ⟨[]⟩ 0), ⟨[]⟩⟩
def o288_3 (P : Params) : Obj := ⟨.none, none, (.fields ⟨[]⟩), ⟨[]⟩⟩
def o289_3 (P : Params) : Obj := ⟨(.type "tuple"), none, (.seq ⟨[(sv "self" 709), (sv "a" 710), (sv "c" 711)]⟩ 0), ⟨[]⟩⟩
def o290_3 (P : Params) : Obj := ⟨(.type "tuple"), none, (.seq ⟨[]⟩ 0), ⟨[]⟩⟩
def o291_3 (P : Params) : Obj := ⟨.none, none, (.func ⟨(ns "left"), (ns "Reckoning.left"), defArgs (subS (top 29) 8), .stmts (defBody (subS (top 29) 8)), defScope (subS (top 29) 8), 0, [], .none, .none, .none, .none, none, .none, .none, 0⟩), ⟨[]⟩⟩
def o292_3 (P : Params) : Obj := ⟨(.type "code"), none, (.fields ⟨[(sv "left" 706), (sv "Reckoning.left" 707), (sv "/claim/cut.py" 708), (.int (136) 0), (.int (3) 0), (.int (0) 0), (.int (0) 0), (.int (3) 0), (.ref 287), (.bool true), (.int (370) 0), (.ref 288), .none, (.ref 289), (.ref 290), (.ref 291), (.int (712) 0), (.int (136) 0), (sv "/claim/cut.py" 713)]⟩), ⟨[]⟩⟩
def o293_3 (P : Params) : Obj := ⟨(.type "function"), none, (.func ⟨(ns "left"), (ns "Reckoning.left"), defArgs (subS (top 29) 8), .stmts (defBody (subS (top 29) 8)), defScope (subS (top 29) 8), 3, [], .none, .none, .none, (sv "watchedways.reckonings" 627), none, (.ref 292), .none, 0⟩), ⟨[]⟩⟩
def o294_3 (P : Params) : Obj := ⟨(.type "tuple"), none, (.seq ⟨[]⟩ 0), ⟨[]⟩⟩
def o295_3 (P : Params) : Obj := ⟨.none, none, (.fields ⟨[]⟩), ⟨[]⟩⟩
def o296_3 (P : Params) : Obj := ⟨(.type "tuple"), none, (.seq ⟨[(sv "self" 718), (sv "c" 719), (sv "a" 720)]⟩ 0), ⟨[]⟩⟩
def o297_3 (P : Params) : Obj := ⟨(.type "tuple"), none, (.seq ⟨[]⟩ 0), ⟨[]⟩⟩
def o298_3 (P : Params) : Obj := ⟨.none, none, (.func ⟨(ns "right"), (ns "Reckoning.right"), defArgs (subS (top 29) 9), .stmts (defBody (subS (top 29) 9)), defScope (subS (top 29) 9), 0, [], .none, .none, .none, .none, none, .none, .none, 0⟩), ⟨[]⟩⟩
def o299_3 (P : Params) : Obj := ⟨(.type "code"), none, (.fields ⟨[(sv "right" 715), (sv "Reckoning.right" 716), (sv "/claim/cut.py" 717), (.int (139) 0), (.int (3) 0), (.int (0) 0), (.int (0) 0), (.int (3) 0), (.ref 294), (.bool true), (.int (370) 0), (.ref 295), .none, (.ref 296), (.ref 297), (.ref 298), (.int (721) 0), (.int (139) 0), (sv "/claim/cut.py" 722)]⟩), ⟨[]⟩⟩
def o300_3 (P : Params) : Obj := ⟨(.type "function"), none, (.func ⟨(ns "right"), (ns "Reckoning.right"), defArgs (subS (top 29) 9), .stmts (defBody (subS (top 29) 9)), defScope (subS (top 29) 9), 3, [], .none, .none, .none, (sv "watchedways.reckonings" 627), none, (.ref 299), .none, 0⟩), ⟨[]⟩⟩
def o301_3 (P : Params) : Obj := ⟨(.type "tuple"), none, (.seq ⟨[]⟩ 0), ⟨[]⟩⟩
def o302_3 (P : Params) : Obj := ⟨.none, none, (.fields ⟨[]⟩), ⟨[]⟩⟩
def o303_3 (P : Params) : Obj := ⟨(.type "tuple"), none, (.seq ⟨[(sv "self" 727), (sv "worths" 728), (sv "found" 729), (sv "worth" 730)]⟩ 0), ⟨[]⟩⟩
def o304_3 (P : Params) : Obj := ⟨(.type "tuple"), none, (.seq ⟨[]⟩ 0), ⟨[]⟩⟩
def o305_3 (P : Params) : Obj := ⟨.none, none, (.func ⟨(ns "_joined"), (ns "Reckoning._joined"), defArgs (subS (top 29) 10), .stmts (defBody (subS (top 29) 10)), defScope (subS (top 29) 10), 0, [], .none, .none, .none, .none, none, .none, .none, 0⟩), ⟨[]⟩⟩
def o306_3 (P : Params) : Obj := ⟨(.type "code"), none, (.fields ⟨[(sv "_joined" 724), (sv "Reckoning._joined" 725), (sv "/claim/cut.py" 726), (.int (142) 0), (.int (2) 0), (.int (0) 0), (.int (0) 0), (.int (3) 0), (.ref 301), (.bool true), (.int (370) 0), (.ref 302), .none, (.ref 303), (.ref 304), (.ref 305), (.int (731) 0), (.int (142) 0), (sv "/claim/cut.py" 732)]⟩), ⟨[]⟩⟩
def o307_3 (P : Params) : Obj := ⟨(.type "function"), none, (.func ⟨(ns "_joined"), (ns "Reckoning._joined"), defArgs (subS (top 29) 10), .stmts (defBody (subS (top 29) 10)), defScope (subS (top 29) 10), 3, [], .none, .none, .none, (sv "watchedways.reckonings" 627), none, (.ref 306), .none, 0⟩), ⟨[]⟩⟩
def o308_3 (P : Params) : Obj := ⟨(.type "tuple"), none, (.seq ⟨[]⟩ 0), ⟨[]⟩⟩
def o309_3 (P : Params) : Obj := ⟨.none, none, (.fields ⟨[]⟩), ⟨[]⟩⟩
def o310_3 (P : Params) : Obj := ⟨.none, none, (.func ⟨(ns "_meet"), (ns "Reckoning._meet"), defArgs (subS (top 29) 11), .stmts (defBody (subS (top 29) 11)), defScope (subS (top 29) 11), 0, [], .none, .none, .none, .none, none, .none, .none, 0⟩), ⟨[]⟩⟩
def o311_3 (P : Params) : Obj := ⟨(.type "code"), none, (.fields ⟨[(sv "_meet" 734), (sv "Reckoning._meet" 735), (sv "/claim/cut.py" 736), (.int (148) 0), (.int (3) 0), (.int (0) 0), (.int (0) 0), (.int (3) 0), (.ref 308), (.bool true), (.int (370) 0), (.ref 309), .none, .none, .none, (.ref 310), (.int (737) 0), (.int (148) 0), (sv "/claim/cut.py" 738)]⟩), ⟨[]⟩⟩
def o312_3 (P : Params) : Obj := ⟨(.type "function"), none, (.func ⟨(ns "_meet"), (ns "Reckoning._meet"), defArgs (subS (top 29) 11), .stmts (defBody (subS (top 29) 11)), defScope (subS (top 29) 11), 3, [], .none, .none, .none, (sv "watchedways.reckonings" 627), none, (.ref 311), .none, 0⟩), ⟨[]⟩⟩
def o313_3 (P : Params) : Obj := ⟨(.type "tuple"), none, (.seq ⟨[]⟩ 0), ⟨[]⟩⟩
def o314_3 (P : Params) : Obj := ⟨.none, none, (.fields ⟨[]⟩), ⟨[]⟩⟩
def o315_3 (P : Params) : Obj := ⟨.none, none, (.func ⟨(ns "_left"), (ns "Reckoning._left"), defArgs (subS (top 29) 12), .stmts (defBody (subS (top 29) 12)), defScope (subS (top 29) 12), 0, [], .none, .none, .none, .none, none, .none, .none, 0⟩), ⟨[]⟩⟩
def o316_3 (P : Params) : Obj := ⟨(.type "code"), none, (.fields ⟨[(sv "_left" 740), (sv "Reckoning._left" 741), (sv "/claim/cut.py" 742), (.int (152) 0), (.int (3) 0), (.int (0) 0), (.int (0) 0), (.int (3) 0), (.ref 313), (.bool true), (.int (370) 0), (.ref 314), .none, .none, .none, (.ref 315), (.int (743) 0), (.int (152) 0), (sv "/claim/cut.py" 744)]⟩), ⟨[]⟩⟩
def o317_3 (P : Params) : Obj := ⟨(.type "function"), none, (.func ⟨(ns "_left"), (ns "Reckoning._left"), defArgs (subS (top 29) 12), .stmts (defBody (subS (top 29) 12)), defScope (subS (top 29) 12), 3, [], .none, .none, .none, (sv "watchedways.reckonings" 627), none, (.ref 316), .none, 0⟩), ⟨[]⟩⟩
def o318_3 (P : Params) : Obj := ⟨(.type "tuple"), none, (.seq ⟨[]⟩ 0), ⟨[]⟩⟩
def o319_3 (P : Params) : Obj := ⟨.none, none, (.fields ⟨[]⟩), ⟨[]⟩⟩
def o320_3 (P : Params) : Obj := ⟨.none, none, (.func ⟨(ns "_right"), (ns "Reckoning._right"), defArgs (subS (top 29) 13), .stmts (defBody (subS (top 29) 13)), defScope (subS (top 29) 13), 0, [], .none, .none, .none, .none, none, .none, .none, 0⟩), ⟨[]⟩⟩
def o321_3 (P : Params) : Obj := ⟨(.type "code"), none, (.fields ⟨[(sv "_right" 746), (sv "Reckoning._right" 747), (sv "/claim/cut.py" 748), (.int (156) 0), (.int (3) 0), (.int (0) 0), (.int (0) 0), (.int (3) 0), (.ref 318), (.bool true), (.int (370) 0), (.ref 319), .none, .none, .none, (.ref 320), (.int (749) 0), (.int (156) 0), (sv "/claim/cut.py" 750)]⟩), ⟨[]⟩⟩
def o322_3 (P : Params) : Obj := ⟨(.type "function"), none, (.func ⟨(ns "_right"), (ns "Reckoning._right"), defArgs (subS (top 29) 13), .stmts (defBody (subS (top 29) 13)), defScope (subS (top 29) 13), 3, [], .none, .none, .none, (sv "watchedways.reckonings" 627), none, (.ref 321), .none, 0⟩), ⟨[]⟩⟩
def o323_3 (P : Params) : Obj := ⟨(.type "tuple"), none, (.seq ⟨[(sv "_lefts" 752), (sv "_meets" 753), (sv "_rights" 754), (sv "joins" 755), (sv "none" 756), (sv "one" 757), (sv "products" 758)]⟩ 0), ⟨[]⟩⟩
def o324_3 (P : Params) : Obj := ⟨(.type "dict"), none, (.dict ⟨[en P "__module__" 636 (sv "watchedways.reckonings" 627), en P "__firstlineno__" 640 (.int (95) 639), en P "__init__" 646 (.ref 237), en P "__eq__" 654 (.ref 244), en P "is_worth" 662 (.ref 251), en P "beneath" 671 (.ref 258), en P "join" 680 (.ref 265), en P "times" 689 (.ref 272), en P "meet" 698 (.ref 279), en P "greatest" 705 (.ref 286), en P "left" 714 (.ref 293), en P "right" 723 (.ref 300), en P "_joined" 733 (.ref 307), en P "_meet" 739 (.ref 312), en P "_left" 745 (.ref 317), en P "_right" 751 (.ref 322), en P "__static_attributes__" 759 (.ref 323), en P "__dict__" 761 (.ref 326), en P "__weakref__" 763 (.ref 327), en P "__doc__" 764 .none, en P "__hash__" 765 .none]⟩ 5), ⟨[]⟩⟩
def o325_3 (P : Params) : Obj := ⟨(.type "type"), none, (.cls ⟨(ns "Reckoning"), [(.type "object")], [(.ref 325), (.type "object")], 324, (ns "Reckoning"), true, [], [], false, none, false⟩), ⟨[none, none, (some (sv "Reckoning" 629)), (some (sv "Reckoning" 637)), (some (.builtin "object.__new__")), (some (.bool true))]⟩⟩
def o326_3 (P : Params) : Obj := ⟨(.type "getset_descriptor"), none, (.fields ⟨[(sv "__dict__" 760), (.ref 325), (.builtin "function.__dict__"), (.builtin "function.__dict__#set")]⟩), ⟨[]⟩⟩
def o327_3 (P : Params) : Obj := ⟨(.type "getset_descriptor"), none, (.fields ⟨[(sv "__weakref__" 762), (.ref 325), (.builtin "ExceptionGroup.__weakref__"), .none]⟩), ⟨[]⟩⟩
def o328_3 (P : Params) : Obj := ⟨(.type "super"), none, (.fields ⟨[(.ref 325), (.ref 325), (.ref 325)]⟩), ⟨[]⟩⟩
def o329_3 (P : Params) : Obj := ⟨(.type "builtin_function_or_method"), none, (.fields ⟨[(.builtin "object.__init_subclass__"), (.ref 325)]⟩), ⟨[]⟩⟩
def o330_3 (P : Params) : Obj := ⟨(.type "tuple"), none, (.seq ⟨[]⟩ 0), ⟨[]⟩⟩
def o331_3 (P : Params) : Obj := ⟨.none, none, (.fields ⟨[]⟩), ⟨[]⟩⟩
def o332_3 (P : Params) : Obj := ⟨(.type "tuple"), none, (.seq ⟨[(sv "reckoning" 771)]⟩ 0), ⟨[]⟩⟩
def o333_3 (P : Params) : Obj := ⟨(.type "tuple"), none, (.seq ⟨[]⟩ 0), ⟨[]⟩⟩
def o334_3 (P : Params) : Obj := ⟨.none, none, (.func ⟨(ns "check_told"), (ns "check_told"), defArgs (top 30), .stmts (defBody (top 30)), defScope (top 30), 0, [], .none, .none, .none, .none, none, .none, .none, 0⟩), ⟨[]⟩⟩
def o335_3 (P : Params) : Obj := ⟨(.type "code"), none, (.fields ⟨[(sv "check_told" 768), (sv "check_told" 769), (sv "/claim/cut.py" 770), (.int (159) 0), (.int (1) 0), (.int (0) 0), (.int (0) 0), (.int (3) 0), (.ref 330), (.bool true), (.int (370) 0), (.ref 331), .none, (.ref 332), (.ref 333), (.ref 334), (.int (772) 0), (.int (159) 0), (sv "/claim/cut.py" 773)]⟩), ⟨[]⟩⟩
def o336_3 (P : Params) : Obj := ⟨(.type "function"), none, (.func ⟨(ns "check_told"), (ns "check_told"), defArgs (top 30), .stmts (defBody (top 30)), defScope (top 30), 3, [], .none, .none, .none, (sv "watchedways.reckonings" 627), none, (.ref 335), .none, 0⟩), ⟨[]⟩⟩
def o337_3 (P : Params) : Obj := ⟨(.type "tuple"), none, (.seq ⟨[]⟩ 0), ⟨[]⟩⟩
def o338_3 (P : Params) : Obj := ⟨.none, none, (.fields ⟨[]⟩), ⟨[]⟩⟩
def o339_3 (P : Params) : Obj := ⟨(.type "tuple"), none, (.seq ⟨[(sv "reckoning" 780)]⟩ 0), ⟨[]⟩⟩
def o340_3 (P : Params) : Obj := ⟨(.type "tuple"), none, (.seq ⟨[]⟩ 0), ⟨[]⟩⟩
def o341_3 (P : Params) : Obj := ⟨.none, none, (.func ⟨(ns "turned"), (ns "turned"), defArgs (top 32), .stmts (defBody (top 32)), defScope (top 32), 0, [], .none, .none, .none, .none, none, .none, .none, 0⟩), ⟨[]⟩⟩
def o342_3 (P : Params) : Obj := ⟨(.type "code"), none, (.fields ⟨[(sv "turned" 777), (sv "turned" 778), (sv "/claim/cut.py" 779), (.int (163) 0), (.int (1) 0), (.int (0) 0), (.int (0) 0), (.int (3) 0), (.ref 337), (.bool true), (.int (370) 0), (.ref 338), .none, (.ref 339), (.ref 340), (.ref 341), (.int (781) 0), (.int (163) 0), (sv "/claim/cut.py" 782)]⟩), ⟨[]⟩⟩
def o343_3 (P : Params) : Obj := ⟨(.type "function"), none, (.func ⟨(ns "turned"), (ns "turned"), defArgs (top 32), .stmts (defBody (top 32)), defScope (top 32), 3, [], .none, .none, .none, (sv "watchedways.making" 775), none, (.ref 342), .none, 0⟩), ⟨[]⟩⟩
def o344_3 (P : Params) : Obj := ⟨(.type "tuple"), none, (.seq ⟨[]⟩ 0), ⟨[]⟩⟩
def o345_3 (P : Params) : Obj := ⟨.none, none, (.fields ⟨[]⟩), ⟨[]⟩⟩
def o346_3 (P : Params) : Obj := ⟨(.type "tuple"), none, (.seq ⟨[(sv "one" 787), (sv "other" 788), (sv "size" 789)]⟩ 0), ⟨[]⟩⟩
def o347_3 (P : Params) : Obj := ⟨(.type "tuple"), none, (.seq ⟨[]⟩ 0), ⟨[]⟩⟩
def o348_3 (P : Params) : Obj := ⟨.none, none, (.func ⟨(ns "beside"), (ns "beside"), defArgs (top 33), .stmts (defBody (top 33)), defScope (top 33), 0, [], .none, .none, .none, .none, none, .none, .none, 0⟩), ⟨[]⟩⟩
def o349_3 (P : Params) : Obj := ⟨(.type "code"), none, (.fields ⟨[(sv "beside" 784), (sv "beside" 785), (sv "/claim/cut.py" 786), (.int (166) 0), (.int (2) 0), (.int (0) 0), (.int (0) 0), (.int (3) 0), (.ref 344), (.bool true), (.int (370) 0), (.ref 345), .none, (.ref 346), (.ref 347), (.ref 348), (.int (790) 0), (.int (166) 0), (sv "/claim/cut.py" 791)]⟩), ⟨[]⟩⟩
def o350_3 (P : Params) : Obj := ⟨(.type "function"), none, (.func ⟨(ns "beside"), (ns "beside"), defArgs (top 33), .stmts (defBody (top 33)), defScope (top 33), 3, [], .none, .none, .none, (sv "watchedways.making" 775), none, (.ref 349), .none, 0⟩), ⟨[]⟩⟩
def o351_3 (P : Params) : Obj := ⟨(.type "tuple"), none, (.seq ⟨[]⟩ 0), ⟨[]⟩⟩
def o352_3 (P : Params) : Obj := ⟨.none, none, (.fields ⟨[]⟩), ⟨[]⟩⟩
def o353_3 (P : Params) : Obj := ⟨.none, none, (.func ⟨(ns "side_by_side"), (ns "side_by_side"), defArgs (top 34), .stmts (defBody (top 34)), defScope (top 34), 0, [], .none, .none, .none, .none, none, .none, .none, 0⟩), ⟨[]⟩⟩
def o354_3 (P : Params) : Obj := ⟨(.type "code"), none, (.fields ⟨[(sv "side_by_side" 793), (sv "side_by_side" 794), (sv "/claim/cut.py" 795), (.int (173) 0), (.int (2) 0), (.int (0) 0), (.int (0) 0), (.int (3) 0), (.ref 351), (.bool true), (.int (370) 0), (.ref 352), .none, .none, .none, (.ref 353), (.int (796) 0), (.int (173) 0), (sv "/claim/cut.py" 797)]⟩), ⟨[]⟩⟩
def o355_3 (P : Params) : Obj := ⟨(.type "function"), none, (.func ⟨(ns "side_by_side"), (ns "side_by_side"), defArgs (top 34), .stmts (defBody (top 34)), defScope (top 34), 3, [], .none, .none, .none, (sv "watchedways.making" 775), none, (.ref 354), .none, 0⟩), ⟨[]⟩⟩
def T3 (P : Params) : BT := (.node (o0_0 P) (.node (o1_0 P) (.node (o3_3 P) (.node (o7_0 P) (.node (o15_0 P) (.node (o31_0 P) (.node (o63_3 P) (.node (o127_3 P) (.node (o255_3 P) .nil .nil) .nil) (.node (o191_3 P) (.node (o319_3 P) .nil .nil) .nil)) (.node (o95_3 P) (.node (o159_3 P) (.node (o287_3 P) .nil .nil) .nil) (.node (o223_3 P) (.node (o351_3 P) .nil .nil) .nil))) (.node (o47_3 P) (.node (o79_3 P) (.node (o143_3 P) (.node (o271_3 P) .nil .nil) .nil) (.node (o207_3 P) (.node (o335_3 P) .nil .nil) .nil)) (.node (o111_3 P) (.node (o175_3 P) (.node (o303_3 P) .nil .nil) .nil) (.node (o239_3 P) .nil .nil)))) (.node (o23_0 P) (.node (o39_1 P) (.node (o71_3 P) (.node (o135_3 P) (.node (o263_3 P) .nil .nil) .nil) (.node (o199_3 P) (.node (o327_3 P) .nil .nil) .nil)) (.node (o103_3 P) (.node (o167_3 P) (.node (o295_3 P) .nil .nil) .nil) (.node (o231_3 P) .nil .nil))) (.node (o55_3 P) (.node (o87_3 P) (.node (o151_3 P) (.node (o279_3 P) .nil .nil) .nil) (.node (o215_3 P) (.node (o343_3 P) .nil .nil) .nil)) (.node (o119_3 P) (.node (o183_3 P) (.node (o311_3 P) .nil .nil) .nil) (.node (o247_3 P) .nil .nil))))) (.node (o11_0 P) (.node (o19_0 P) (.node (o35_0 P) (.node (o67_3 P) (.node (o131_3 P) (.node (o259_3 P) .nil .nil) .nil) (.node (o195_3 P) (.node (o323_3 P) .nil .nil) .nil)) (.node (o99_3 P) (.node (o163_3 P) (.node (o291_3 P) .nil .nil) .nil) (.node (o227_3 P) (.node (o355_3 P) .nil .nil) .nil))) (.node (o51_3 P) (.node (o83_3 P) (.node (o147_3 P) (.node (o275_3 P) .nil .nil) .nil) (.node (o211_3 P) (.node (o339_3 P) .nil .nil) .nil)) (.node (o115_3 P) (.node (o179_3 P) (.node (o307_3 P) .nil .nil) .nil) (.node (o243_3 P) .nil .nil)))) (.node (o27_0 P) (.node (o43_3 P) (.node (o75_3 P) (.node (o139_3 P) (.node (o267_3 P) .nil .nil) .nil) (.node (o203_3 P) (.node (o331_3 P) .nil .nil) .nil)) (.node (o107_3 P) (.node (o171_3 P) (.node (o299_3 P) .nil .nil) .nil) (.node (o235_3 P) .nil .nil))) (.node (o59_3 P) (.node (o91_3 P) (.node (o155_3 P) (.node (o283_3 P) .nil .nil) .nil) (.node (o219_3 P) (.node (o347_3 P) .nil .nil) .nil)) (.node (o123_3 P) (.node (o187_3 P) (.node (o315_3 P) .nil .nil) .nil) (.node (o251_3 P) .nil .nil)))))) (.node (o5_0 P) (.node (o9_0 P) (.node (o17_0 P) (.node (o33_0 P) (.node (o65_3 P) (.node (o129_3 P) (.node (o257_3 P) .nil .nil) .nil) (.node (o193_3 P) (.node (o321_3 P) .nil .nil) .nil)) (.node (o97_3 P) (.node (o161_3 P) (.node (o289_3 P) .nil .nil) .nil) (.node (o225_3 P) (.node (o353_3 P) .nil .nil) .nil))) (.node (o49_3 P) (.node (o81_3 P) (.node (o145_3 P) (.node (o273_3 P) .nil .nil) .nil) (.node (o209_3 P) (.node (o337_3 P) .nil .nil) .nil)) (.node (o113_3 P) (.node (o177_3 P) (.node (o305_3 P) .nil .nil) .nil) (.node (o241_3 P) .nil .nil)))) (.node (o25_0 P) (.node (o41_1 P) (.node (o73_3 P) (.node (o137_3 P) (.node (o265_3 P) .nil .nil) .nil) (.node (o201_3 P) (.node (o329_3 P) .nil .nil) .nil)) (.node (o105_3 P) (.node (o169_3 P) (.node (o297_3 P) .nil .nil) .nil) (.node (o233_3 P) .nil .nil))) (.node (o57_3 P) (.node (o89_3 P) (.node (o153_3 P) (.node (o281_3 P) .nil .nil) .nil) (.node (o217_3 P) (.node (o345_3 P) .nil .nil) .nil)) (.node (o121_3 P) (.node (o185_3 P) (.node (o313_3 P) .nil .nil) .nil) (.node (o249_3 P) .nil .nil))))) (.node (o13_0 P) (.node (o21_0 P) (.node (o37_0 P) (.node (o69_3 P) (.node (o133_3 P) (.node (o261_3 P) .nil .nil) .nil) (.node (o197_3 P) (.node (o325_3 P) .nil .nil) .nil)) (.node (o101_3 P) (.node (o165_3 P) (.node (o293_3 P) .nil .nil) .nil) (.node (o229_3 P) .nil .nil))) (.node (o53_3 P) (.node (o85_3 P) (.node (o149_3 P) (.node (o277_3 P) .nil .nil) .nil) (.node (o213_3 P) (.node (o341_3 P) .nil .nil) .nil)) (.node (o117_3 P) (.node (o181_3 P) (.node (o309_3 P) .nil .nil) .nil) (.node (o245_3 P) .nil .nil)))) (.node (o29_0 P) (.node (o45_3 P) (.node (o77_3 P) (.node (o141_3 P) (.node (o269_3 P) .nil .nil) .nil) (.node (o205_3 P) (.node (o333_3 P) .nil .nil) .nil)) (.node (o109_3 P) (.node (o173_3 P) (.node (o301_3 P) .nil .nil) .nil) (.node (o237_3 P) .nil .nil))) (.node (o61_3 P) (.node (o93_3 P) (.node (o157_3 P) (.node (o285_3 P) .nil .nil) .nil) (.node (o221_3 P) (.node (o349_3 P) .nil .nil) .nil)) (.node (o125_3 P) (.node (o189_3 P) (.node (o317_3 P) .nil .nil) .nil) (.node (o253_3 P) .nil .nil))))))) (.node (o2_0 P) (.node (o4_0 P) (.node (o8_0 P) (.node (o16_0 P) (.node (o32_0 P) (.node (o64_3 P) (.node (o128_3 P) (.node (o256_3 P) .nil .nil) .nil) (.node (o192_3 P) (.node (o320_3 P) .nil .nil) .nil)) (.node (o96_3 P) (.node (o160_3 P) (.node (o288_3 P) .nil .nil) .nil) (.node (o224_3 P) (.node (o352_3 P) .nil .nil) .nil))) (.node (o48_3 P) (.node (o80_3 P) (.node (o144_3 P) (.node (o272_3 P) .nil .nil) .nil) (.node (o208_3 P) (.node (o336_3 P) .nil .nil) .nil)) (.node (o112_3 P) (.node (o176_3 P) (.node (o304_3 P) .nil .nil) .nil) (.node (o240_3 P) .nil .nil)))) (.node (o24_0 P) (.node (o40_3 P) (.node (o72_3 P) (.node (o136_3 P) (.node (o264_3 P) .nil .nil) .nil) (.node (o200_3 P) (.node (o328_3 P) .nil .nil) .nil)) (.node (o104_3 P) (.node (o168_3 P) (.node (o296_3 P) .nil .nil) .nil) (.node (o232_3 P) .nil .nil))) (.node (o56_3 P) (.node (o88_3 P) (.node (o152_3 P) (.node (o280_3 P) .nil .nil) .nil) (.node (o216_3 P) (.node (o344_3 P) .nil .nil) .nil)) (.node (o120_3 P) (.node (o184_3 P) (.node (o312_3 P) .nil .nil) .nil) (.node (o248_3 P) .nil .nil))))) (.node (o12_0 P) (.node (o20_0 P) (.node (o36_0 P) (.node (o68_3 P) (.node (o132_3 P) (.node (o260_3 P) .nil .nil) .nil) (.node (o196_3 P) (.node (o324_3 P) .nil .nil) .nil)) (.node (o100_3 P) (.node (o164_3 P) (.node (o292_3 P) .nil .nil) .nil) (.node (o228_3 P) .nil .nil))) (.node (o52_3 P) (.node (o84_3 P) (.node (o148_3 P) (.node (o276_3 P) .nil .nil) .nil) (.node (o212_3 P) (.node (o340_3 P) .nil .nil) .nil)) (.node (o116_3 P) (.node (o180_3 P) (.node (o308_3 P) .nil .nil) .nil) (.node (o244_3 P) .nil .nil)))) (.node (o28_0 P) (.node (o44_3 P) (.node (o76_3 P) (.node (o140_3 P) (.node (o268_3 P) .nil .nil) .nil) (.node (o204_3 P) (.node (o332_3 P) .nil .nil) .nil)) (.node (o108_3 P) (.node (o172_3 P) (.node (o300_3 P) .nil .nil) .nil) (.node (o236_3 P) .nil .nil))) (.node (o60_3 P) (.node (o92_3 P) (.node (o156_3 P) (.node (o284_3 P) .nil .nil) .nil) (.node (o220_3 P) (.node (o348_3 P) .nil .nil) .nil)) (.node (o124_3 P) (.node (o188_3 P) (.node (o316_3 P) .nil .nil) .nil) (.node (o252_3 P) .nil .nil)))))) (.node (o6_0 P) (.node (o10_0 P) (.node (o18_0 P) (.node (o34_0 P) (.node (o66_3 P) (.node (o130_3 P) (.node (o258_3 P) .nil .nil) .nil) (.node (o194_3 P) (.node (o322_3 P) .nil .nil) .nil)) (.node (o98_3 P) (.node (o162_3 P) (.node (o290_3 P) .nil .nil) .nil) (.node (o226_3 P) (.node (o354_3 P) .nil .nil) .nil))) (.node (o50_3 P) (.node (o82_3 P) (.node (o146_3 P) (.node (o274_3 P) .nil .nil) .nil) (.node (o210_3 P) (.node (o338_3 P) .nil .nil) .nil)) (.node (o114_3 P) (.node (o178_3 P) (.node (o306_3 P) .nil .nil) .nil) (.node (o242_3 P) .nil .nil)))) (.node (o26_0 P) (.node (o42_1 P) (.node (o74_3 P) (.node (o138_3 P) (.node (o266_3 P) .nil .nil) .nil) (.node (o202_3 P) (.node (o330_3 P) .nil .nil) .nil)) (.node (o106_3 P) (.node (o170_3 P) (.node (o298_3 P) .nil .nil) .nil) (.node (o234_3 P) .nil .nil))) (.node (o58_3 P) (.node (o90_3 P) (.node (o154_3 P) (.node (o282_3 P) .nil .nil) .nil) (.node (o218_3 P) (.node (o346_3 P) .nil .nil) .nil)) (.node (o122_3 P) (.node (o186_3 P) (.node (o314_3 P) .nil .nil) .nil) (.node (o250_3 P) .nil .nil))))) (.node (o14_0 P) (.node (o22_0 P) (.node (o38_0 P) (.node (o70_3 P) (.node (o134_3 P) (.node (o262_3 P) .nil .nil) .nil) (.node (o198_3 P) (.node (o326_3 P) .nil .nil) .nil)) (.node (o102_3 P) (.node (o166_3 P) (.node (o294_3 P) .nil .nil) .nil) (.node (o230_3 P) .nil .nil))) (.node (o54_3 P) (.node (o86_3 P) (.node (o150_3 P) (.node (o278_3 P) .nil .nil) .nil) (.node (o214_3 P) (.node (o342_3 P) .nil .nil) .nil)) (.node (o118_3 P) (.node (o182_3 P) (.node (o310_3 P) .nil .nil) .nil) (.node (o246_3 P) .nil .nil)))) (.node (o30_0 P) (.node (o46_3 P) (.node (o78_3 P) (.node (o142_3 P) (.node (o270_3 P) .nil .nil) .nil) (.node (o206_3 P) (.node (o334_3 P) .nil .nil) .nil)) (.node (o110_3 P) (.node (o174_3 P) (.node (o302_3 P) .nil .nil) .nil) (.node (o238_3 P) .nil .nil))) (.node (o62_3 P) (.node (o94_3 P) (.node (o158_3 P) (.node (o286_3 P) .nil .nil) .nil) (.node (o222_3 P) (.node (o350_3 P) .nil .nil) .nil)) (.node (o126_3 P) (.node (o190_3 P) (.node (o318_3 P) .nil .nil) .nil) (.node (o254_3 P) .nil .nil))))))))
def X3 (w : World) (os : OsState) : SharedT := ⟨T3 w.params, 356, lf, ⟨[]⟩, ⟨0, 0, 0, 0⟩, 801, os⟩
def o3_4 (P : Params) : Obj := ⟨(.type "dict"), none, (.dict ⟨[en P "__name__" 165 (sv "law_watchedways_k33_turned_and_beside" 1128), en P "__doc__" 166 .none, en P "__package__" 167 .none, en P "__loader__" 168 (.builtin "__main__.__loader__#opaque"), en P "__spec__" 169 .none, en P "__annotations__" 170 (.ref 6), en P "__builtins__" 171 (.ref 4), en P "__file__" 173 (sv "/claim/cut.py" 172), en P "__cached__" 174 .none, en P "gcd" 369 (.builtin "math.gcd"), en P "_wall" 382 (.ref 49), en P "WayError" 411 (.ref 66), en P "BadReckoning" 427 (.ref 79), en P "BadWorth" 443 (.ref 91), en P "BadNumber" 459 (.ref 103), en P "TooMany" 482 (.ref 122), en P "is_integer" 491 (.ref 131), en P "is_row" 498 (.ref 138), en P "FEWEST_WORTHS" 502 (.int (2) 501), en P "MOST_WORTHS" 504 (.int (16) 503), en P "first_fault" 514 (.ref 145), en P "size_fault" 525 (.ref 152), en P "is_square" 531 (.ref 157), en P "is_side" 537 (.ref 162), en P "is_below" 545 (.ref 169), en P "none_fault" 555 (.ref 176), en P "one_fault" 564 (.ref 183), en P "idle_fault" 572 (.ref 190), en P "swap_fault" 581 (.ref 197), en P "grouping_fault" 593 (.ref 204), en P "over_fault" 606 (.ref 211), en P "same_fault" 614 (.ref 218), en P "check_worths" 626 (.ref 225), en P "Reckoning" 767 (.ref 325), en P "check_told" 774 (.ref 336), en P "turned" 783 (.ref 343), en P "beside" 792 (.ref 350), en P "side_by_side" 798 (.ref 355), en P "Lengths" 907 (.ref 435), en P "longer" 915 (.ref 446), en P "Ratio" 1031 (.ref 534), en P "is_number" 1038 (.ref 545), en P "as_ratio" 1045 (.ref 552), en P "sum_of" 1053 (.ref 559), en P "product_of" 1061 (.ref 566), en P "Numbers" 1127 (.ref 611), en P "_law_hand" 1135 (.ref 620), en P "_law_draw" 1146 (.ref 627), en P "_law_chain" 1152 (.ref 632), en P "_law_products" 1158 (.ref 637), en P "_law_monoid" 1166 (.ref 644), en P "_law_lot" 1179 (.ref 651), en P "_law_lots" 1185 (.ref 656), en P "_law_paired" 1198 (.ref 663), en P "_law_beside" 1208 (.ref 670), en P "_law_turned" 1214 (.ref 675), en P "_law_order" 1225 (.ref 682), en P "_law_renamed" 1231 (.ref 687), en P "_law_made" 1243 (.ref 694), en P "_law_rows" 1249 (.ref 699), en P "_law_is_told" 1257 (.ref 706), en P "_law_small" 1268 (.ref 713), en P "_law_asked" 1279 (.ref 720), en P "_law_kept" 1286 (.ref 727), en P "law" 1305 (.ref 734)]⟩ 65), ⟨[]⟩⟩
def o40_4 (P : Params) : Obj := ⟨.none, none, (.fields ⟨[(.int (2) 0), (.int (0) 0), (.ref 48), (.int (6) 0), (.int (0) 0), (.ref 55), (.int (10) 0), (.int (0) 0), (.ref 75), (.int (12) 0), (.int (0) 0), (.ref 87), (.int (14) 0), (.int (0) 0), (.ref 99), (.int (16) 0), (.int (0) 0), (.ref 111), (.int (21) 0), (.int (0) 0), (.ref 130), (.int (23) 0), (.int (0) 0), (.ref 137), (.int (28) 0), (.int (0) 0), (.ref 144), (.int (30) 0), (.int (0) 0), (.ref 151), (.int (39) 0), (.int (0) 0), (.ref 156), (.int (41) 0), (.int (0) 0), (.ref 161), (.int (43) 0), (.int (0) 0), (.ref 168), (.int (45) 0), (.int (0) 0), (.ref 175), (.int (52) 0), (.int (0) 0), (.ref 182), (.int (57) 0), (.int (0) 0), (.ref 189), (.int (62) 0), (.int (0) 0), (.ref 196), (.int (68) 0), (.int (0) 0), (.ref 203), (.int (76) 0), (.int (0) 0), (.ref 210), (.int (87) 0), (.int (0) 0), (.ref 217), (.int (90) 0), (.int (0) 0), (.ref 224), (.int (95) 0), (.int (0) 0), (.ref 231), (.int (159) 0), (.int (0) 0), (.ref 335), (.int (163) 0), (.int (0) 0), (.ref 342), (.int (166) 0), (.int (0) 0), (.ref 349), (.int (173) 0), (.int (0) 0), (.ref 354), (.int (178) 0), (.int (0) 0), (.ref 361), (.int (211) 0), (.int (0) 0), (.ref 445), (.int (216) 0), (.int (0) 0), (.ref 452), (.int (275) 0), (.int (0) 0), (.ref 544), (.int (277) 0), (.int (0) 0), (.ref 551), (.int (279) 0), (.int (0) 0), (.ref 558), (.int (281) 0), (.int (0) 0), (.ref 565), (.int (284) 0), (.int (0) 0), (.ref 572), (.int (303) 0), (.int (0) 0), (.ref 619), (.int (306) 0), (.int (0) 0), (.ref 626), (.int (322) 0), (.int (0) 0), (.ref 631), (.int (325) 0), (.int (0) 0), (.ref 636), (.int (336) 0), (.int (0) 0), (.ref 643), (.int (341) 0), (.int (0) 0), (.ref 650), (.int (349) 0), (.int (0) 0), (.ref 655), (.int (353) 0), (.int (0) 0), (.ref 662), (.int (362) 0), (.int (0) 0), (.ref 669), (.int (366) 0), (.int (0) 0), (.ref 674), (.int (369) 0), (.int (0) 0), (.ref 681), (.int (375) 0), (.int (0) 0), (.ref 686), (.int (382) 0), (.int (0) 0), (.ref 693), (.int (403) 0), (.int (0) 0), (.ref 698), (.int (405) 0), (.int (0) 0), (.ref 705), (.int (411) 0), (.int (0) 0), (.ref 712), (.int (422) 0), (.int (0) 0), (.ref 719), (.int (434) 0), (.int (0) 0), (.ref 726), (.int (436) 0), (.int (0) 0), (.ref 733)]⟩), ⟨[]⟩⟩
def o356_4 (P : Params) : Obj := ⟨(.type "tuple"), none, (.seq ⟨[]⟩ 0), ⟨[]⟩⟩
def o357_4 (P : Params) : Obj := ⟨(.type "builtin_function_or_method"), none, (.fields ⟨[(.builtin "type.__prepare__"), (.type "type")]⟩), ⟨[]⟩⟩
def o358_4 (P : Params) : Obj := ⟨(.type "dict"), none, (.dict ⟨[en P "__module__" 808 (sv "watchedways.lengths" 799), en P "__qualname__" 810 (sv "Lengths" 809), en P "__firstlineno__" 812 (.int (178) 811), en P "__init__" 819 (.ref 369), en P "__eq__" 827 (.ref 376), en P "is_worth" 835 (.ref 383), en P "beneath" 844 (.ref 390), en P "join" 853 (.ref 397), en P "times" 862 (.ref 404), en P "meet" 871 (.ref 411), en P "greatest" 878 (.ref 418), en P "left" 887 (.ref 425), en P "right" 896 (.ref 432), en P "__static_attributes__" 899 (.ref 433)]⟩ 14), ⟨[]⟩⟩
def o359_4 (P : Params) : Obj := ⟨(.type "tuple"), none, (.seq ⟨[]⟩ 0), ⟨[]⟩⟩
def o360_4 (P : Params) : Obj := ⟨.none, none, (.fields ⟨[(.int (180) 0), (.int (4) 0), (.ref 368), (.int (184) 0), (.int (4) 0), (.ref 375), (.int (187) 0), (.int (4) 0), (.ref 382), (.int (190) 0), (.int (4) 0), (.ref 389), (.int (193) 0), (.int (4) 0), (.ref 396), (.int (197) 0), (.int (4) 0), (.ref 403), (.int (200) 0), (.int (4) 0), (.ref 410), (.int (203) 0), (.int (4) 0), (.ref 417), (.int (206) 0), (.int (4) 0), (.ref 424), (.int (209) 0), (.int (4) 0), (.ref 431)]⟩), ⟨[]⟩⟩
def o361_4 (P : Params) : Obj := ⟨(.type "code"), none, (.fields ⟨[(sv "Lengths" 803), (sv "Lengths" 804), (sv "/claim/cut.py" 805), (.int (178) 0), (.int (0) 0), (.int (0) 0), (.int (0) 0), (.int (0) 0), (.ref 359), (.bool false), (.int (370) 0), (.ref 360), .none, .none, .none, .none, (.int (806) 0), (.int (178) 0), (sv "/claim/cut.py" 807)]⟩), ⟨[]⟩⟩
def o362_4 (P : Params) : Obj := ⟨(.type "frame"), none, .plain, ⟨[(some (.ref 361)), (some (.ref 3)), (some (.ref 358)), none, (some (sv "watchedways.lengths" 799)), none, (some (.ref 0))]⟩⟩
def o363_4 (P : Params) : Obj := ⟨(.type "tuple"), none, (.seq ⟨[]⟩ 0), ⟨[]⟩⟩
def o364_4 (P : Params) : Obj := ⟨.none, none, (.fields ⟨[]⟩), ⟨[]⟩⟩
def o365_4 (P : Params) : Obj := ⟨(.type "tuple"), none, (.seq ⟨[(sv "self" 816)]⟩ 0), ⟨[]⟩⟩
def o366_4 (P : Params) : Obj := ⟨(.type "tuple"), none, (.seq ⟨[]⟩ 0), ⟨[]⟩⟩
def o367_4 (P : Params) : Obj := ⟨.none, none, (.func ⟨(ns "__init__"), (ns "Lengths.__init__"), defArgs (subS (top 36) 0), .stmts (defBody (subS (top 36) 0)), defScope (subS (top 36) 0), 0, [], .none, .none, .none, .none, none, .none, .none, 0⟩), ⟨[]⟩⟩
def o368_4 (P : Params) : Obj := ⟨(.type "code"), none, (.fields ⟨[(sv "__init__" 813), (sv "Lengths.__init__" 814), (sv "/claim/cut.py" 815), (.int (180) 0), (.int (1) 0), (.int (0) 0), (.int (0) 0), (.int (3) 0), (.ref 363), (.bool true), (.int (370) 0), (.ref 364), .none, (.ref 365), (.ref 366), (.ref 367), (.int (817) 0), (.int (180) 0), (sv "/claim/cut.py" 818)]⟩), ⟨[]⟩⟩
def o369_4 (P : Params) : Obj := ⟨(.type "function"), none, (.func ⟨(ns "__init__"), (ns "Lengths.__init__"), defArgs (subS (top 36) 0), .stmts (defBody (subS (top 36) 0)), defScope (subS (top 36) 0), 3, [], .none, .none, .none, (sv "watchedways.lengths" 799), none, (.ref 368), .none, 0⟩), ⟨[]⟩⟩
def o370_4 (P : Params) : Obj := ⟨(.type "tuple"), none, (.seq ⟨[]⟩ 0), ⟨[]⟩⟩
def o371_4 (P : Params) : Obj := ⟨.none, none, (.fields ⟨[]⟩), ⟨[]⟩⟩
def o372_4 (P : Params) : Obj := ⟨(.type "tuple"), none, (.seq ⟨[(sv "self" 823), (sv "other" 824)]⟩ 0), ⟨[]⟩⟩
def o373_4 (P : Params) : Obj := ⟨(.type "tuple"), none, (.seq ⟨[]⟩ 0), ⟨[]⟩⟩
def o374_4 (P : Params) : Obj := ⟨.none, none, (.func ⟨(ns "__eq__"), (ns "Lengths.__eq__"), defArgs (subS (top 36) 1), .stmts (defBody (subS (top 36) 1)), defScope (subS (top 36) 1), 0, [], .none, .none, .none, .none, none, .none, .none, 0⟩), ⟨[]⟩⟩
def o375_4 (P : Params) : Obj := ⟨(.type "code"), none, (.fields ⟨[(sv "__eq__" 820), (sv "Lengths.__eq__" 821), (sv "/claim/cut.py" 822), (.int (184) 0), (.int (2) 0), (.int (0) 0), (.int (0) 0), (.int (3) 0), (.ref 370), (.bool true), (.int (370) 0), (.ref 371), .none, (.ref 372), (.ref 373), (.ref 374), (.int (825) 0), (.int (184) 0), (sv "/claim/cut.py" 826)]⟩), ⟨[]⟩⟩
def o376_4 (P : Params) : Obj := ⟨(.type "function"), none, (.func ⟨(ns "__eq__"), (ns "Lengths.__eq__"), defArgs (subS (top 36) 1), .stmts (defBody (subS (top 36) 1)), defScope (subS (top 36) 1), 3, [], .none, .none, .none, (sv "watchedways.lengths" 799), none, (.ref 375), .none, 0⟩), ⟨[]⟩⟩
def o377_4 (P : Params) : Obj := ⟨(.type "tuple"), none, (.seq ⟨[]⟩ 0), ⟨[]⟩⟩
def o378_4 (P : Params) : Obj := ⟨.none, none, (.fields ⟨[]⟩), ⟨[]⟩⟩
def o379_4 (P : Params) : Obj := ⟨(.type "tuple"), none, (.seq ⟨[(sv "self" 831), (sv "thing" 832)]⟩ 0), ⟨[]⟩⟩
def o380_4 (P : Params) : Obj := ⟨(.type "tuple"), none, (.seq ⟨[]⟩ 0), ⟨[]⟩⟩
def o381_4 (P : Params) : Obj := ⟨.none, none, (.func ⟨(ns "is_worth"), (ns "Lengths.is_worth"), defArgs (subS (top 36) 2), .stmts (defBody (subS (top 36) 2)), defScope (subS (top 36) 2), 0, [], .none, .none, .none, .none, none, .none, .none, 0⟩), ⟨[]⟩⟩
def o382_4 (P : Params) : Obj := ⟨(.type "code"), none, (.fields ⟨[(sv "is_worth" 828), (sv "Lengths.is_worth" 829), (sv "/claim/cut.py" 830), (.int (187) 0), (.int (2) 0), (.int (0) 0), (.int (0) 0), (.int (3) 0), (.ref 377), (.bool true), (.int (370) 0), (.ref 378), .none, (.ref 379), (.ref 380), (.ref 381), (.int (833) 0), (.int (187) 0), (sv "/claim/cut.py" 834)]⟩), ⟨[]⟩⟩
def o383_4 (P : Params) : Obj := ⟨(.type "function"), none, (.func ⟨(ns "is_worth"), (ns "Lengths.is_worth"), defArgs (subS (top 36) 2), .stmts (defBody (subS (top 36) 2)), defScope (subS (top 36) 2), 3, [], .none, .none, .none, (sv "watchedways.lengths" 799), none, (.ref 382), .none, 0⟩), ⟨[]⟩⟩
def o384_4 (P : Params) : Obj := ⟨(.type "tuple"), none, (.seq ⟨[]⟩ 0), ⟨[]⟩⟩
def o385_4 (P : Params) : Obj := ⟨.none, none, (.fields ⟨[]⟩), ⟨[]⟩⟩
def o386_4 (P : Params) : Obj := ⟨(.type "tuple"), none, (.seq ⟨[(sv "self" 839), (sv "a" 840), (sv "b" 841)]⟩ 0), ⟨[]⟩⟩
def o387_4 (P : Params) : Obj := ⟨(.type "tuple"), none, (.seq ⟨[]⟩ 0), ⟨[]⟩⟩
def o388_4 (P : Params) : Obj := ⟨.none, none, (.func ⟨(ns "beneath"), (ns "Lengths.beneath"), defArgs (subS (top 36) 3), .stmts (defBody (subS (top 36) 3)), defScope (subS (top 36) 3), 0, [], .none, .none, .none, .none, none, .none, .none, 0⟩), ⟨[]⟩⟩
def o389_4 (P : Params) : Obj := ⟨(.type "code"), none, (.fields ⟨[(sv "beneath" 836), (sv "Lengths.beneath" 837), (sv "/claim/cut.py" 838), (.int (190) 0), (.int (3) 0), (.int (0) 0), (.int (0) 0), (.int (3) 0), (.ref 384), (.bool true), (.int (370) 0), (.ref 385), .none, (.ref 386), (.ref 387), (.ref 388), (.int (842) 0), (.int (190) 0), (sv "/claim/cut.py" 843)]⟩), ⟨[]⟩⟩
def o390_4 (P : Params) : Obj := ⟨(.type "function"), none, (.func ⟨(ns "beneath"), (ns "Lengths.beneath"), defArgs (subS (top 36) 3), .stmts (defBody (subS (top 36) 3)), defScope (subS (top 36) 3), 3, [], .none, .none, .none, (sv "watchedways.lengths" 799), none, (.ref 389), .none, 0⟩), ⟨[]⟩⟩
def o391_4 (P : Params) : Obj := ⟨(.type "tuple"), none, (.seq ⟨[]⟩ 0), ⟨[]⟩⟩
def o392_4 (P : Params) : Obj := ⟨.none, none, (.fields ⟨[]⟩), ⟨[]⟩⟩
def o393_4 (P : Params) : Obj := ⟨(.type "tuple"), none, (.seq ⟨[(sv "self" 848), (sv "a" 849), (sv "b" 850)]⟩ 0), ⟨[]⟩⟩
def o394_4 (P : Params) : Obj := ⟨(.type "tuple"), none, (.seq ⟨[]⟩ 0), ⟨[]⟩⟩
def o395_4 (P : Params) : Obj := ⟨.none, none, (.func ⟨(ns "join"), (ns "Lengths.join"), defArgs (subS (top 36) 4), .stmts (defBody (subS (top 36) 4)), defScope (subS (top 36) 4), 0, [], .none, .none, .none, .none, none, .none, .none, 0⟩), ⟨[]⟩⟩
def o396_4 (P : Params) : Obj := ⟨(.type "code"), none, (.fields ⟨[(sv "join" 845), (sv "Lengths.join" 846), (sv "/claim/cut.py" 847), (.int (193) 0), (.int (3) 0), (.int (0) 0), (.int (0) 0), (.int (3) 0), (.ref 391), (.bool true), (.int (370) 0), (.ref 392), .none, (.ref 393), (.ref 394), (.ref 395), (.int (851) 0), (.int (193) 0), (sv "/claim/cut.py" 852)]⟩), ⟨[]⟩⟩
def o397_4 (P : Params) : Obj := ⟨(.type "function"), none, (.func ⟨(ns "join"), (ns "Lengths.join"), defArgs (subS (top 36) 4), .stmts (defBody (subS (top 36) 4)), defScope (subS (top 36) 4), 3, [], .none, .none, .none, (sv "watchedways.lengths" 799), none, (.ref 396), .none, 0⟩), ⟨[]⟩⟩
def o398_4 (P : Params) : Obj := ⟨(.type "tuple"), none, (.seq ⟨[]⟩ 0), ⟨[]⟩⟩
def o399_4 (P : Params) : Obj := ⟨.none, none, (.fields ⟨[]⟩), ⟨[]⟩⟩
def o400_4 (P : Params) : Obj := ⟨(.type "tuple"), none, (.seq ⟨[(sv "self" 857), (sv "a" 858), (sv "b" 859)]⟩ 0), ⟨[]⟩⟩
def o401_4 (P : Params) : Obj := ⟨(.type "tuple"), none, (.seq ⟨[]⟩ 0), ⟨[]⟩⟩
def o402_4 (P : Params) : Obj := ⟨.none, none, (.func ⟨(ns "times"), (ns "Lengths.times"), defArgs (subS (top 36) 5), .stmts (defBody (subS (top 36) 5)), defScope (subS (top 36) 5), 0, [], .none, .none, .none, .none, none, .none, .none, 0⟩), ⟨[]⟩⟩
def o403_4 (P : Params) : Obj := ⟨(.type "code"), none, (.fields ⟨[(sv "times" 854), (sv "Lengths.times" 855), (sv "/claim/cut.py" 856), (.int (197) 0), (.int (3) 0), (.int (0) 0), (.int (0) 0), (.int (3) 0), (.ref 398), (.bool true), (.int (370) 0), (.ref 399), .none, (.ref 400), (.ref 401), (.ref 402), (.int (860) 0), (.int (197) 0), (sv "/claim/cut.py" 861)]⟩), ⟨[]⟩⟩
def o404_4 (P : Params) : Obj := ⟨(.type "function"), none, (.func ⟨(ns "times"), (ns "Lengths.times"), defArgs (subS (top 36) 5), .stmts (defBody (subS (top 36) 5)), defScope (subS (top 36) 5), 3, [], .none, .none, .none, (sv "watchedways.lengths" 799), none, (.ref 403), .none, 0⟩), ⟨[]⟩⟩
def o405_4 (P : Params) : Obj := ⟨(.type "tuple"), none, (.seq ⟨[]⟩ 0), ⟨[]⟩⟩
def o406_4 (P : Params) : Obj := ⟨.none, none, (.fields ⟨[]⟩), ⟨[]⟩⟩
def o407_4 (P : Params) : Obj := ⟨(.type "tuple"), none, (.seq ⟨[(sv "self" 866), (sv "a" 867), (sv "b" 868)]⟩ 0), ⟨[]⟩⟩
def o408_4 (P : Params) : Obj := ⟨(.type "tuple"), none, (.seq ⟨[]⟩ 0), ⟨[]⟩⟩
def o409_4 (P : Params) : Obj := ⟨.none, none, (.func ⟨(ns "meet"), (ns "Lengths.meet"), defArgs (subS (top 36) 6), .stmts (defBody (subS (top 36) 6)), defScope (subS (top 36) 6), 0, [], .none, .none, .none, .none, none, .none, .none, 0⟩), ⟨[]⟩⟩
def o410_4 (P : Params) : Obj := ⟨(.type "code"), none, (.fields ⟨[(sv "meet" 863), (sv "Lengths.meet" 864), (sv "/claim/cut.py" 865), (.int (200) 0), (.int (3) 0), (.int (0) 0), (.int (0) 0), (.int (3) 0), (.ref 405), (.bool true), (.int (370) 0), (.ref 406), .none, (.ref 407), (.ref 408), (.ref 409), (.int (869) 0), (.int (200) 0), (sv "/claim/cut.py" 870)]⟩), ⟨[]⟩⟩
def o411_4 (P : Params) : Obj := ⟨(.type "function"), none, (.func ⟨(ns "meet"), (ns "Lengths.meet"), defArgs (subS (top 36) 6), .stmts (defBody (subS (top 36) 6)), defScope (subS (top 36) 6), 3, [], .none, .none, .none, (sv "watchedways.lengths" 799), none, (.ref 410), .none, 0⟩), ⟨[]⟩⟩
def o412_4 (P : Params) : Obj := ⟨(.type "tuple"), none, (.seq ⟨[]⟩ 0), ⟨[]⟩⟩
def o413_4 (P : Params) : Obj := ⟨.none, none, (.fields ⟨[]⟩), ⟨[]⟩⟩
def o414_4 (P : Params) : Obj := ⟨(.type "tuple"), none, (.seq ⟨[(sv "self" 875)]⟩ 0), ⟨[]⟩⟩
def o415_4 (P : Params) : Obj := ⟨(.type "tuple"), none, (.seq ⟨[]⟩ 0), ⟨[]⟩⟩
def o416_4 (P : Params) : Obj := ⟨.none, none, (.func ⟨(ns "greatest"), (ns "Lengths.greatest"), defArgs (subS (top 36) 7), .stmts (defBody (subS (top 36) 7)), defScope (subS (top 36) 7), 0, [], .none, .none, .none, .none, none, .none, .none, 0⟩), ⟨[]⟩⟩
def o417_4 (P : Params) : Obj := ⟨(.type "code"), none, (.fields ⟨[(sv "greatest" 872), (sv "Lengths.greatest" 873), (sv "/claim/cut.py" 874), (.int (203) 0), (.int (1) 0), (.int (0) 0), (.int (0) 0), (.int (3) 0), (.ref 412), (.bool true), (.int (370) 0), (.ref 413), .none, (.ref 414), (.ref 415), (.ref 416), (.int (876) 0), (.int (203) 0), (sv "/claim/cut.py" 877)]⟩), ⟨[]⟩⟩
def o418_4 (P : Params) : Obj := ⟨(.type "function"), none, (.func ⟨(ns "greatest"), (ns "Lengths.greatest"), defArgs (subS (top 36) 7), .stmts (defBody (subS (top 36) 7)), defScope (subS (top 36) 7), 3, [], .none, .none, .none, (sv "watchedways.lengths" 799), none, (.ref 417), .none, 0⟩), ⟨[]⟩⟩
def o419_4 (P : Params) : Obj := ⟨(.type "tuple"), none, (.seq ⟨[]⟩ 0), ⟨[]⟩⟩
def o420_4 (P : Params) : Obj := ⟨.none, none, (.fields ⟨[]⟩), ⟨[]⟩⟩
def o421_4 (P : Params) : Obj := ⟨(.type "tuple"), none, (.seq ⟨[(sv "self" 882), (sv "a" 883), (sv "c" 884)]⟩ 0), ⟨[]⟩⟩
def o422_4 (P : Params) : Obj := ⟨(.type "tuple"), none, (.seq ⟨[]⟩ 0), ⟨[]⟩⟩
def o423_4 (P : Params) : Obj := ⟨.none, none, (.func ⟨(ns "left"), (ns "Lengths.left"), defArgs (subS (top 36) 8), .stmts (defBody (subS (top 36) 8)), defScope (subS (top 36) 8), 0, [], .none, .none, .none, .none, none, .none, .none, 0⟩), ⟨[]⟩⟩
def o424_4 (P : Params) : Obj := ⟨(.type "code"), none, (.fields ⟨[(sv "left" 879), (sv "Lengths.left" 880), (sv "/claim/cut.py" 881), (.int (206) 0), (.int (3) 0), (.int (0) 0), (.int (0) 0), (.int (3) 0), (.ref 419), (.bool true), (.int (370) 0), (.ref 420), .none, (.ref 421), (.ref 422), (.ref 423), (.int (885) 0), (.int (206) 0), (sv "/claim/cut.py" 886)]⟩), ⟨[]⟩⟩
def o425_4 (P : Params) : Obj := ⟨(.type "function"), none, (.func ⟨(ns "left"), (ns "Lengths.left"), defArgs (subS (top 36) 8), .stmts (defBody (subS (top 36) 8)), defScope (subS (top 36) 8), 3, [], .none, .none, .none, (sv "watchedways.lengths" 799), none, (.ref 424), .none, 0⟩), ⟨[]⟩⟩
def o426_4 (P : Params) : Obj := ⟨(.type "tuple"), none, (.seq ⟨[]⟩ 0), ⟨[]⟩⟩
def o427_4 (P : Params) : Obj := ⟨.none, none, (.fields ⟨[]⟩), ⟨[]⟩⟩
def o428_4 (P : Params) : Obj := ⟨(.type "tuple"), none, (.seq ⟨[(sv "self" 891), (sv "c" 892), (sv "a" 893)]⟩ 0), ⟨[]⟩⟩
def o429_4 (P : Params) : Obj := ⟨(.type "tuple"), none, (.seq ⟨[]⟩ 0), ⟨[]⟩⟩
def o430_4 (P : Params) : Obj := ⟨.none, none, (.func ⟨(ns "right"), (ns "Lengths.right"), defArgs (subS (top 36) 9), .stmts (defBody (subS (top 36) 9)), defScope (subS (top 36) 9), 0, [], .none, .none, .none, .none, none, .none, .none, 0⟩), ⟨[]⟩⟩
def o431_4 (P : Params) : Obj := ⟨(.type "code"), none, (.fields ⟨[(sv "right" 888), (sv "Lengths.right" 889), (sv "/claim/cut.py" 890), (.int (209) 0), (.int (3) 0), (.int (0) 0), (.int (0) 0), (.int (3) 0), (.ref 426), (.bool true), (.int (370) 0), (.ref 427), .none, (.ref 428), (.ref 429), (.ref 430), (.int (894) 0), (.int (209) 0), (sv "/claim/cut.py" 895)]⟩), ⟨[]⟩⟩
def o432_4 (P : Params) : Obj := ⟨(.type "function"), none, (.func ⟨(ns "right"), (ns "Lengths.right"), defArgs (subS (top 36) 9), .stmts (defBody (subS (top 36) 9)), defScope (subS (top 36) 9), 3, [], .none, .none, .none, (sv "watchedways.lengths" 799), none, (.ref 431), .none, 0⟩), ⟨[]⟩⟩
def o433_4 (P : Params) : Obj := ⟨(.type "tuple"), none, (.seq ⟨[(sv "none" 897), (sv "one" 898)]⟩ 0), ⟨[]⟩⟩
def o434_4 (P : Params) : Obj := ⟨(.type "dict"), none, (.dict ⟨[en P "__module__" 808 (sv "watchedways.lengths" 799), en P "__firstlineno__" 812 (.int (178) 811), en P "__init__" 819 (.ref 369), en P "__eq__" 827 (.ref 376), en P "is_worth" 835 (.ref 383), en P "beneath" 844 (.ref 390), en P "join" 853 (.ref 397), en P "times" 862 (.ref 404), en P "meet" 871 (.ref 411), en P "greatest" 878 (.ref 418), en P "left" 887 (.ref 425), en P "right" 896 (.ref 432), en P "__static_attributes__" 899 (.ref 433), en P "__dict__" 901 (.ref 436), en P "__weakref__" 903 (.ref 437), en P "__doc__" 904 .none, en P "__hash__" 905 .none]⟩ 5), ⟨[]⟩⟩
def o435_4 (P : Params) : Obj := ⟨(.type "type"), none, (.cls ⟨(ns "Lengths"), [(.type "object")], [(.ref 435), (.type "object")], 434, (ns "Lengths"), true, [], [], false, none, false⟩), ⟨[none, none, (some (sv "Lengths" 801)), (some (sv "Lengths" 809)), (some (.builtin "object.__new__")), (some (.bool true))]⟩⟩
def o436_4 (P : Params) : Obj := ⟨(.type "getset_descriptor"), none, (.fields ⟨[(sv "__dict__" 900), (.ref 435), (.builtin "function.__dict__"), (.builtin "function.__dict__#set")]⟩), ⟨[]⟩⟩
def o437_4 (P : Params) : Obj := ⟨(.type "getset_descriptor"), none, (.fields ⟨[(sv "__weakref__" 902), (.ref 435), (.builtin "ExceptionGroup.__weakref__"), .none]⟩), ⟨[]⟩⟩
def o438_4 (P : Params) : Obj := ⟨(.type "super"), none, (.fields ⟨[(.ref 435), (.ref 435), (.ref 435)]⟩), ⟨[]⟩⟩
def o439_4 (P : Params) : Obj := ⟨(.type "builtin_function_or_method"), none, (.fields ⟨[(.builtin "object.__init_subclass__"), (.ref 435)]⟩), ⟨[]⟩⟩
def o440_4 (P : Params) : Obj := ⟨(.type "tuple"), none, (.seq ⟨[]⟩ 0), ⟨[]⟩⟩
def o441_4 (P : Params) : Obj := ⟨.none, none, (.fields ⟨[]⟩), ⟨[]⟩⟩
def o442_4 (P : Params) : Obj := ⟨(.type "tuple"), none, (.seq ⟨[(sv "one" 911), (sv "other" 912)]⟩ 0), ⟨[]⟩⟩
def o443_4 (P : Params) : Obj := ⟨(.type "tuple"), none, (.seq ⟨[]⟩ 0), ⟨[]⟩⟩
def o444_4 (P : Params) : Obj := ⟨.none, none, (.func ⟨(ns "longer"), (ns "longer"), defArgs (top 37), .stmts (defBody (top 37)), defScope (top 37), 0, [], .none, .none, .none, .none, none, .none, .none, 0⟩), ⟨[]⟩⟩
def o445_4 (P : Params) : Obj := ⟨(.type "code"), none, (.fields ⟨[(sv "longer" 908), (sv "longer" 909), (sv "/claim/cut.py" 910), (.int (211) 0), (.int (2) 0), (.int (0) 0), (.int (0) 0), (.int (3) 0), (.ref 440), (.bool true), (.int (370) 0), (.ref 441), .none, (.ref 442), (.ref 443), (.ref 444), (.int (913) 0), (.int (211) 0), (sv "/claim/cut.py" 914)]⟩), ⟨[]⟩⟩
def o446_4 (P : Params) : Obj := ⟨(.type "function"), none, (.func ⟨(ns "longer"), (ns "longer"), defArgs (top 37), .stmts (defBody (top 37)), defScope (top 37), 3, [], .none, .none, .none, (sv "watchedways.lengths" 799), none, (.ref 445), .none, 0⟩), ⟨[]⟩⟩
def o447_4 (P : Params) : Obj := ⟨(.type "tuple"), none, (.seq ⟨[]⟩ 0), ⟨[]⟩⟩
def o448_4 (P : Params) : Obj := ⟨(.type "builtin_function_or_method"), none, (.fields ⟨[(.builtin "type.__prepare__"), (.type "type")]⟩), ⟨[]⟩⟩
def o449_4 (P : Params) : Obj := ⟨(.type "dict"), none, (.dict ⟨[en P "__module__" 925 (sv "watchedways.ratios" 916), en P "__qualname__" 927 (sv "Ratio" 926), en P "__firstlineno__" 929 (.int (216) 928), en P "__init__" 940 (.ref 461), en P "__eq__" 948 (.ref 468), en P "__add__" 956 (.ref 475), en P "__radd__" 964 (.ref 482), en P "__sub__" 972 (.ref 489), en P "__rsub__" 980 (.ref 496), en P "__mul__" 988 (.ref 503), en P "__rmul__" 996 (.ref 510), en P "__neg__" 1003 (.ref 517), en P "over" 1012 (.ref 524), en P "less" 1020 (.ref 531), en P "__static_attributes__" 1023 (.ref 532)]⟩ 15), ⟨[]⟩⟩
def o450_4 (P : Params) : Obj := ⟨(.type "tuple"), none, (.seq ⟨[]⟩ 0), ⟨[]⟩⟩
def o451_4 (P : Params) : Obj := ⟨.none, none, (.fields ⟨[(.int (218) 0), (.int (4) 0), (.ref 460), (.int (229) 0), (.int (4) 0), (.ref 467), (.int (234) 0), (.int (4) 0), (.ref 474), (.int (239) 0), (.int (4) 0), (.ref 481), (.int (244) 0), (.int (4) 0), (.ref 488), (.int (249) 0), (.int (4) 0), (.ref 495), (.int (254) 0), (.int (4) 0), (.ref 502), (.int (259) 0), (.int (4) 0), (.ref 509), (.int (264) 0), (.int (4) 0), (.ref 516), (.int (267) 0), (.int (4) 0), (.ref 523), (.int (273) 0), (.int (4) 0), (.ref 530)]⟩), ⟨[]⟩⟩
def o452_4 (P : Params) : Obj := ⟨(.type "code"), none, (.fields ⟨[(sv "Ratio" 920), (sv "Ratio" 921), (sv "/claim/cut.py" 922), (.int (216) 0), (.int (0) 0), (.int (0) 0), (.int (0) 0), (.int (0) 0), (.ref 450), (.bool false), (.int (370) 0), (.ref 451), .none, .none, .none, .none, (.int (923) 0), (.int (216) 0), (sv "/claim/cut.py" 924)]⟩), ⟨[]⟩⟩
def o453_4 (P : Params) : Obj := ⟨(.type "frame"), none, .plain, ⟨[(some (.ref 452)), (some (.ref 3)), (some (.ref 449)), none, (some (sv "watchedways.ratios" 916)), none, (some (.ref 0))]⟩⟩
def o454_4 (P : Params) : Obj := ⟨(.type "tuple"), none, (.seq ⟨[(.int (1) 930)]⟩ 0), ⟨[]⟩⟩
def o455_4 (P : Params) : Obj := ⟨(.type "tuple"), none, (.seq ⟨[]⟩ 0), ⟨[]⟩⟩
def o456_4 (P : Params) : Obj := ⟨.none, none, (.fields ⟨[]⟩), ⟨[]⟩⟩
def o457_4 (P : Params) : Obj := ⟨(.type "tuple"), none, (.seq ⟨[(sv "self" 934), (sv "top" 935), (sv "bottom" 936), (sv "shared" 937)]⟩ 0), ⟨[]⟩⟩
def o458_4 (P : Params) : Obj := ⟨(.type "tuple"), none, (.seq ⟨[]⟩ 0), ⟨[]⟩⟩
def o459_4 (P : Params) : Obj := ⟨.none, none, (.func ⟨(ns "__init__"), (ns "Ratio.__init__"), defArgs (subS (top 39) 0), .stmts (defBody (subS (top 39) 0)), defScope (subS (top 39) 0), 0, [], .none, .none, .none, .none, none, .none, .none, 0⟩), ⟨[]⟩⟩
def o460_4 (P : Params) : Obj := ⟨(.type "code"), none, (.fields ⟨[(sv "__init__" 931), (sv "Ratio.__init__" 932), (sv "/claim/cut.py" 933), (.int (218) 0), (.int (3) 0), (.int (0) 0), (.int (0) 0), (.int (3) 0), (.ref 455), (.bool true), (.int (370) 0), (.ref 456), .none, (.ref 457), (.ref 458), (.ref 459), (.int (938) 0), (.int (218) 0), (sv "/claim/cut.py" 939)]⟩), ⟨[]⟩⟩
def o461_4 (P : Params) : Obj := ⟨(.type "function"), none, (.func ⟨(ns "__init__"), (ns "Ratio.__init__"), defArgs (subS (top 39) 0), .stmts (defBody (subS (top 39) 0)), defScope (subS (top 39) 0), 3, [], (.ref 454), .none, .none, (sv "watchedways.ratios" 916), none, (.ref 460), .none, 0⟩), ⟨[]⟩⟩
def o462_4 (P : Params) : Obj := ⟨(.type "tuple"), none, (.seq ⟨[]⟩ 0), ⟨[]⟩⟩
def o463_4 (P : Params) : Obj := ⟨.none, none, (.fields ⟨[]⟩), ⟨[]⟩⟩
def o464_4 (P : Params) : Obj := ⟨(.type "tuple"), none, (.seq ⟨[(sv "self" 944), (sv "other" 945)]⟩ 0), ⟨[]⟩⟩
def o465_4 (P : Params) : Obj := ⟨(.type "tuple"), none, (.seq ⟨[]⟩ 0), ⟨[]⟩⟩
def o466_4 (P : Params) : Obj := ⟨.none, none, (.func ⟨(ns "__eq__"), (ns "Ratio.__eq__"), defArgs (subS (top 39) 1), .stmts (defBody (subS (top 39) 1)), defScope (subS (top 39) 1), 0, [], .none, .none, .none, .none, none, .none, .none, 0⟩), ⟨[]⟩⟩
def o467_4 (P : Params) : Obj := ⟨(.type "code"), none, (.fields ⟨[(sv "__eq__" 941), (sv "Ratio.__eq__" 942), (sv "/claim/cut.py" 943), (.int (229) 0), (.int (2) 0), (.int (0) 0), (.int (0) 0), (.int (3) 0), (.ref 462), (.bool true), (.int (370) 0), (.ref 463), .none, (.ref 464), (.ref 465), (.ref 466), (.int (946) 0), (.int (229) 0), (sv "/claim/cut.py" 947)]⟩), ⟨[]⟩⟩
def o468_4 (P : Params) : Obj := ⟨(.type "function"), none, (.func ⟨(ns "__eq__"), (ns "Ratio.__eq__"), defArgs (subS (top 39) 1), .stmts (defBody (subS (top 39) 1)), defScope (subS (top 39) 1), 3, [], .none, .none, .none, (sv "watchedways.ratios" 916), none, (.ref 467), .none, 0⟩), ⟨[]⟩⟩
def o469_4 (P : Params) : Obj := ⟨(.type "tuple"), none, (.seq ⟨[]⟩ 0), ⟨[]⟩⟩
def o470_4 (P : Params) : Obj := ⟨.none, none, (.fields ⟨[]⟩), ⟨[]⟩⟩
def o471_4 (P : Params) : Obj := ⟨(.type "tuple"), none, (.seq ⟨[(sv "self" 952), (sv "other" 953)]⟩ 0), ⟨[]⟩⟩
def o472_4 (P : Params) : Obj := ⟨(.type "tuple"), none, (.seq ⟨[]⟩ 0), ⟨[]⟩⟩
def o473_4 (P : Params) : Obj := ⟨.none, none, (.func ⟨(ns "__add__"), (ns "Ratio.__add__"), defArgs (subS (top 39) 2), .stmts (defBody (subS (top 39) 2)), defScope (subS (top 39) 2), 0, [], .none, .none, .none, .none, none, .none, .none, 0⟩), ⟨[]⟩⟩
def o474_4 (P : Params) : Obj := ⟨(.type "code"), none, (.fields ⟨[(sv "__add__" 949), (sv "Ratio.__add__" 950), (sv "/claim/cut.py" 951), (.int (234) 0), (.int (2) 0), (.int (0) 0), (.int (0) 0), (.int (3) 0), (.ref 469), (.bool true), (.int (370) 0), (.ref 470), .none, (.ref 471), (.ref 472), (.ref 473), (.int (954) 0), (.int (234) 0), (sv "/claim/cut.py" 955)]⟩), ⟨[]⟩⟩
def o475_4 (P : Params) : Obj := ⟨(.type "function"), none, (.func ⟨(ns "__add__"), (ns "Ratio.__add__"), defArgs (subS (top 39) 2), .stmts (defBody (subS (top 39) 2)), defScope (subS (top 39) 2), 3, [], .none, .none, .none, (sv "watchedways.ratios" 916), none, (.ref 474), .none, 0⟩), ⟨[]⟩⟩
def o476_4 (P : Params) : Obj := ⟨(.type "tuple"), none, (.seq ⟨[]⟩ 0), ⟨[]⟩⟩
def o477_4 (P : Params) : Obj := ⟨.none, none, (.fields ⟨[]⟩), ⟨[]⟩⟩
def o478_4 (P : Params) : Obj := ⟨(.type "tuple"), none, (.seq ⟨[(sv "self" 960), (sv "other" 961)]⟩ 0), ⟨[]⟩⟩
def o479_4 (P : Params) : Obj := ⟨(.type "tuple"), none, (.seq ⟨[]⟩ 0), ⟨[]⟩⟩
def o480_4 (P : Params) : Obj := ⟨.none, none, (.func ⟨(ns "__radd__"), (ns "Ratio.__radd__"), defArgs (subS (top 39) 3), .stmts (defBody (subS (top 39) 3)), defScope (subS (top 39) 3), 0, [], .none, .none, .none, .none, none, .none, .none, 0⟩), ⟨[]⟩⟩
def o481_4 (P : Params) : Obj := ⟨(.type "code"), none, (.fields ⟨[(sv "__radd__" 957), (sv "Ratio.__radd__" 958), (sv "/claim/cut.py" 959), (.int (239) 0), (.int (2) 0), (.int (0) 0), (.int (0) 0), (.int (3) 0), (.ref 476), (.bool true), (.int (370) 0), (.ref 477), .none, (.ref 478), (.ref 479), (.ref 480), (.int (962) 0), (.int (239) 0), (sv "/claim/cut.py" 963)]⟩), ⟨[]⟩⟩
def o482_4 (P : Params) : Obj := ⟨(.type "function"), none, (.func ⟨(ns "__radd__"), (ns "Ratio.__radd__"), defArgs (subS (top 39) 3), .stmts (defBody (subS (top 39) 3)), defScope (subS (top 39) 3), 3, [], .none, .none, .none, (sv "watchedways.ratios" 916), none, (.ref 481), .none, 0⟩), ⟨[]⟩⟩
def o483_4 (P : Params) : Obj := ⟨(.type "tuple"), none, (.seq ⟨[]⟩ 0), ⟨[]⟩⟩
def o484_4 (P : Params) : Obj := ⟨.none, none, (.fields ⟨[]⟩), ⟨[]⟩⟩
def o485_4 (P : Params) : Obj := ⟨(.type "tuple"), none, (.seq ⟨[(sv "self" 968), (sv "other" 969)]⟩ 0), ⟨[]⟩⟩
def o486_4 (P : Params) : Obj := ⟨(.type "tuple"), none, (.seq ⟨[]⟩ 0), ⟨[]⟩⟩
def o487_4 (P : Params) : Obj := ⟨.none, none, (.func ⟨(ns "__sub__"), (ns "Ratio.__sub__"), defArgs (subS (top 39) 4), .stmts (defBody (subS (top 39) 4)), defScope (subS (top 39) 4), 0, [], .none, .none, .none, .none, none, .none, .none, 0⟩), ⟨[]⟩⟩
def o488_4 (P : Params) : Obj := ⟨(.type "code"), none, (.fields ⟨[(sv "__sub__" 965), (sv "Ratio.__sub__" 966), (sv "/claim/cut.py" 967), (.int (244) 0), (.int (2) 0), (.int (0) 0), (.int (0) 0), (.int (3) 0), (.ref 483), (.bool true), (.int (370) 0), (.ref 484), .none, (.ref 485), (.ref 486), (.ref 487), (.int (970) 0), (.int (244) 0), (sv "/claim/cut.py" 971)]⟩), ⟨[]⟩⟩
def o489_4 (P : Params) : Obj := ⟨(.type "function"), none, (.func ⟨(ns "__sub__"), (ns "Ratio.__sub__"), defArgs (subS (top 39) 4), .stmts (defBody (subS (top 39) 4)), defScope (subS (top 39) 4), 3, [], .none, .none, .none, (sv "watchedways.ratios" 916), none, (.ref 488), .none, 0⟩), ⟨[]⟩⟩
def o490_4 (P : Params) : Obj := ⟨(.type "tuple"), none, (.seq ⟨[]⟩ 0), ⟨[]⟩⟩
def o491_4 (P : Params) : Obj := ⟨.none, none, (.fields ⟨[]⟩), ⟨[]⟩⟩
def o492_4 (P : Params) : Obj := ⟨(.type "tuple"), none, (.seq ⟨[(sv "self" 976), (sv "other" 977)]⟩ 0), ⟨[]⟩⟩
def o493_4 (P : Params) : Obj := ⟨(.type "tuple"), none, (.seq ⟨[]⟩ 0), ⟨[]⟩⟩
def o494_4 (P : Params) : Obj := ⟨.none, none, (.func ⟨(ns "__rsub__"), (ns "Ratio.__rsub__"), defArgs (subS (top 39) 5), .stmts (defBody (subS (top 39) 5)), defScope (subS (top 39) 5), 0, [], .none, .none, .none, .none, none, .none, .none, 0⟩), ⟨[]⟩⟩
def o495_4 (P : Params) : Obj := ⟨(.type "code"), none, (.fields ⟨[(sv "__rsub__" 973), (sv "Ratio.__rsub__" 974), (sv "/claim/cut.py" 975), (.int (249) 0), (.int (2) 0), (.int (0) 0), (.int (0) 0), (.int (3) 0), (.ref 490), (.bool true), (.int (370) 0), (.ref 491), .none, (.ref 492), (.ref 493), (.ref 494), (.int (978) 0), (.int (249) 0), (sv "/claim/cut.py" 979)]⟩), ⟨[]⟩⟩
def o496_4 (P : Params) : Obj := ⟨(.type "function"), none, (.func ⟨(ns "__rsub__"), (ns "Ratio.__rsub__"), defArgs (subS (top 39) 5), .stmts (defBody (subS (top 39) 5)), defScope (subS (top 39) 5), 3, [], .none, .none, .none, (sv "watchedways.ratios" 916), none, (.ref 495), .none, 0⟩), ⟨[]⟩⟩
def o497_4 (P : Params) : Obj := ⟨(.type "tuple"), none, (.seq ⟨[]⟩ 0), ⟨[]⟩⟩
def o498_4 (P : Params) : Obj := ⟨.none, none, (.fields ⟨[]⟩), ⟨[]⟩⟩
def o499_4 (P : Params) : Obj := ⟨(.type "tuple"), none, (.seq ⟨[(sv "self" 984), (sv "other" 985)]⟩ 0), ⟨[]⟩⟩
def o500_4 (P : Params) : Obj := ⟨(.type "tuple"), none, (.seq ⟨[]⟩ 0), ⟨[]⟩⟩
def o501_4 (P : Params) : Obj := ⟨.none, none, (.func ⟨(ns "__mul__"), (ns "Ratio.__mul__"), defArgs (subS (top 39) 6), .stmts (defBody (subS (top 39) 6)), defScope (subS (top 39) 6), 0, [], .none, .none, .none, .none, none, .none, .none, 0⟩), ⟨[]⟩⟩
def o502_4 (P : Params) : Obj := ⟨(.type "code"), none, (.fields ⟨[(sv "__mul__" 981), (sv "Ratio.__mul__" 982), (sv "/claim/cut.py" 983), (.int (254) 0), (.int (2) 0), (.int (0) 0), (.int (0) 0), (.int (3) 0), (.ref 497), (.bool true), (.int (370) 0), (.ref 498), .none, (.ref 499), (.ref 500), (.ref 501), (.int (986) 0), (.int (254) 0), (sv "/claim/cut.py" 987)]⟩), ⟨[]⟩⟩
def o503_4 (P : Params) : Obj := ⟨(.type "function"), none, (.func ⟨(ns "__mul__"), (ns "Ratio.__mul__"), defArgs (subS (top 39) 6), .stmts (defBody (subS (top 39) 6)), defScope (subS (top 39) 6), 3, [], .none, .none, .none, (sv "watchedways.ratios" 916), none, (.ref 502), .none, 0⟩), ⟨[]⟩⟩
def o504_4 (P : Params) : Obj := ⟨(.type "tuple"), none, (.seq ⟨[]⟩ 0), ⟨[]⟩⟩
def o505_4 (P : Params) : Obj := ⟨.none, none, (.fields ⟨[]⟩), ⟨[]⟩⟩
def o506_4 (P : Params) : Obj := ⟨(.type "tuple"), none, (.seq ⟨[(sv "self" 992), (sv "other" 993)]⟩ 0), ⟨[]⟩⟩
def o507_4 (P : Params) : Obj := ⟨(.type "tuple"), none, (.seq ⟨[]⟩ 0), ⟨[]⟩⟩
def o508_4 (P : Params) : Obj := ⟨.none, none, (.func ⟨(ns "__rmul__"), (ns "Ratio.__rmul__"), defArgs (subS (top 39) 7), .stmts (defBody (subS (top 39) 7)), defScope (subS (top 39) 7), 0, [], .none, .none, .none, .none, none, .none, .none, 0⟩), ⟨[]⟩⟩
def o509_4 (P : Params) : Obj := ⟨(.type "code"), none, (.fields ⟨[(sv "__rmul__" 989), (sv "Ratio.__rmul__" 990), (sv "/claim/cut.py" 991), (.int (259) 0), (.int (2) 0), (.int (0) 0), (.int (0) 0), (.int (3) 0), (.ref 504), (.bool true), (.int (370) 0), (.ref 505), .none, (.ref 506), (.ref 507), (.ref 508), (.int (994) 0), (.int (259) 0), (sv "/claim/cut.py" 995)]⟩), ⟨[]⟩⟩
def o510_4 (P : Params) : Obj := ⟨(.type "function"), none, (.func ⟨(ns "__rmul__"), (ns "Ratio.__rmul__"), defArgs (subS (top 39) 7), .stmts (defBody (subS (top 39) 7)), defScope (subS (top 39) 7), 3, [], .none, .none, .none, (sv "watchedways.ratios" 916), none, (.ref 509), .none, 0⟩), ⟨[]⟩⟩
def o511_4 (P : Params) : Obj := ⟨(.type "tuple"), none, (.seq ⟨[]⟩ 0), ⟨[]⟩⟩
def o512_4 (P : Params) : Obj := ⟨.none, none, (.fields ⟨[]⟩), ⟨[]⟩⟩
def o513_4 (P : Params) : Obj := ⟨(.type "tuple"), none, (.seq ⟨[(sv "self" 1000)]⟩ 0), ⟨[]⟩⟩
def o514_4 (P : Params) : Obj := ⟨(.type "tuple"), none, (.seq ⟨[]⟩ 0), ⟨[]⟩⟩
def o515_4 (P : Params) : Obj := ⟨.none, none, (.func ⟨(ns "__neg__"), (ns "Ratio.__neg__"), defArgs (subS (top 39) 8), .stmts (defBody (subS (top 39) 8)), defScope (subS (top 39) 8), 0, [], .none, .none, .none, .none, none, .none, .none, 0⟩), ⟨[]⟩⟩
def o516_4 (P : Params) : Obj := ⟨(.type "code"), none, (.fields ⟨[(sv "__neg__" 997), (sv "Ratio.__neg__" 998), (sv "/claim/cut.py" 999), (.int (264) 0), (.int (1) 0), (.int (0) 0), (.int (0) 0), (.int (3) 0), (.ref 511), (.bool true), (.int (370) 0), (.ref 512), .none, (.ref 513), (.ref 514), (.ref 515), (.int (1001) 0), (.int (264) 0), (sv "/claim/cut.py" 1002)]⟩), ⟨[]⟩⟩
def o517_4 (P : Params) : Obj := ⟨(.type "function"), none, (.func ⟨(ns "__neg__"), (ns "Ratio.__neg__"), defArgs (subS (top 39) 8), .stmts (defBody (subS (top 39) 8)), defScope (subS (top 39) 8), 3, [], .none, .none, .none, (sv "watchedways.ratios" 916), none, (.ref 516), .none, 0⟩), ⟨[]⟩⟩
def o518_4 (P : Params) : Obj := ⟨(.type "tuple"), none, (.seq ⟨[]⟩ 0), ⟨[]⟩⟩
def o519_4 (P : Params) : Obj := ⟨.none, none, (.fields ⟨[]⟩), ⟨[]⟩⟩
def o520_4 (P : Params) : Obj := ⟨(.type "tuple"), none, (.seq ⟨[(sv "self" 1007), (sv "other" 1008), (sv "mate" 1009)]⟩ 0), ⟨[]⟩⟩
def o521_4 (P : Params) : Obj := ⟨(.type "tuple"), none, (.seq ⟨[]⟩ 0), ⟨[]⟩⟩
def o522_4 (P : Params) : Obj := ⟨.none, none, (.func ⟨(ns "over"), (ns "Ratio.over"), defArgs (subS (top 39) 9), .stmts (defBody (subS (top 39) 9)), defScope (subS (top 39) 9), 0, [], .none, .none, .none, .none, none, .none, .none, 0⟩), ⟨[]⟩⟩
def o523_4 (P : Params) : Obj := ⟨(.type "code"), none, (.fields ⟨[(sv "over" 1004), (sv "Ratio.over" 1005), (sv "/claim/cut.py" 1006), (.int (267) 0), (.int (2) 0), (.int (0) 0), (.int (0) 0), (.int (3) 0), (.ref 518), (.bool true), (.int (370) 0), (.ref 519), .none, (.ref 520), (.ref 521), (.ref 522), (.int (1010) 0), (.int (267) 0), (sv "/claim/cut.py" 1011)]⟩), ⟨[]⟩⟩
def o524_4 (P : Params) : Obj := ⟨(.type "function"), none, (.func ⟨(ns "over"), (ns "Ratio.over"), defArgs (subS (top 39) 9), .stmts (defBody (subS (top 39) 9)), defScope (subS (top 39) 9), 3, [], .none, .none, .none, (sv "watchedways.ratios" 916), none, (.ref 523), .none, 0⟩), ⟨[]⟩⟩
def o525_4 (P : Params) : Obj := ⟨(.type "tuple"), none, (.seq ⟨[]⟩ 0), ⟨[]⟩⟩
def o526_4 (P : Params) : Obj := ⟨.none, none, (.fields ⟨[]⟩), ⟨[]⟩⟩
def o527_4 (P : Params) : Obj := ⟨(.type "tuple"), none, (.seq ⟨[(sv "self" 1016), (sv "other" 1017)]⟩ 0), ⟨[]⟩⟩
def o528_4 (P : Params) : Obj := ⟨(.type "tuple"), none, (.seq ⟨[]⟩ 0), ⟨[]⟩⟩
def o529_4 (P : Params) : Obj := ⟨.none, none, (.func ⟨(ns "less"), (ns "Ratio.less"), defArgs (subS (top 39) 10), .stmts (defBody (subS (top 39) 10)), defScope (subS (top 39) 10), 0, [], .none, .none, .none, .none, none, .none, .none, 0⟩), ⟨[]⟩⟩
def o530_4 (P : Params) : Obj := ⟨(.type "code"), none, (.fields ⟨[(sv "less" 1013), (sv "Ratio.less" 1014), (sv "/claim/cut.py" 1015), (.int (273) 0), (.int (2) 0), (.int (0) 0), (.int (0) 0), (.int (3) 0), (.ref 525), (.bool true), (.int (370) 0), (.ref 526), .none, (.ref 527), (.ref 528), (.ref 529), (.int (1018) 0), (.int (273) 0), (sv "/claim/cut.py" 1019)]⟩), ⟨[]⟩⟩
def o531_4 (P : Params) : Obj := ⟨(.type "function"), none, (.func ⟨(ns "less"), (ns "Ratio.less"), defArgs (subS (top 39) 10), .stmts (defBody (subS (top 39) 10)), defScope (subS (top 39) 10), 3, [], .none, .none, .none, (sv "watchedways.ratios" 916), none, (.ref 530), .none, 0⟩), ⟨[]⟩⟩
def o532_4 (P : Params) : Obj := ⟨(.type "tuple"), none, (.seq ⟨[(sv "bottom" 1021), (sv "top" 1022)]⟩ 0), ⟨[]⟩⟩
def o533_4 (P : Params) : Obj := ⟨(.type "dict"), none, (.dict ⟨[en P "__module__" 925 (sv "watchedways.ratios" 916), en P "__firstlineno__" 929 (.int (216) 928), en P "__init__" 940 (.ref 461), en P "__eq__" 948 (.ref 468), en P "__add__" 956 (.ref 475), en P "__radd__" 964 (.ref 482), en P "__sub__" 972 (.ref 489), en P "__rsub__" 980 (.ref 496), en P "__mul__" 988 (.ref 503), en P "__rmul__" 996 (.ref 510), en P "__neg__" 1003 (.ref 517), en P "over" 1012 (.ref 524), en P "less" 1020 (.ref 531), en P "__static_attributes__" 1023 (.ref 532), en P "__dict__" 1025 (.ref 535), en P "__weakref__" 1027 (.ref 536), en P "__doc__" 1028 .none, en P "__hash__" 1029 .none]⟩ 5), ⟨[]⟩⟩
def o534_4 (P : Params) : Obj := ⟨(.type "type"), none, (.cls ⟨(ns "Ratio"), [(.type "object")], [(.ref 534), (.type "object")], 533, (ns "Ratio"), true, [], [], false, none, false⟩), ⟨[none, none, (some (sv "Ratio" 918)), (some (sv "Ratio" 926)), (some (.builtin "object.__new__")), (some (.bool true))]⟩⟩
def o535_4 (P : Params) : Obj := ⟨(.type "getset_descriptor"), none, (.fields ⟨[(sv "__dict__" 1024), (.ref 534), (.builtin "function.__dict__"), (.builtin "function.__dict__#set")]⟩), ⟨[]⟩⟩
def o536_4 (P : Params) : Obj := ⟨(.type "getset_descriptor"), none, (.fields ⟨[(sv "__weakref__" 1026), (.ref 534), (.builtin "ExceptionGroup.__weakref__"), .none]⟩), ⟨[]⟩⟩
def o537_4 (P : Params) : Obj := ⟨(.type "super"), none, (.fields ⟨[(.ref 534), (.ref 534), (.ref 534)]⟩), ⟨[]⟩⟩
def o538_4 (P : Params) : Obj := ⟨(.type "builtin_function_or_method"), none, (.fields ⟨[(.builtin "object.__init_subclass__"), (.ref 534)]⟩), ⟨[]⟩⟩
def o539_4 (P : Params) : Obj := ⟨(.type "tuple"), none, (.seq ⟨[]⟩ 0), ⟨[]⟩⟩
def o540_4 (P : Params) : Obj := ⟨.none, none, (.fields ⟨[]⟩), ⟨[]⟩⟩
def o541_4 (P : Params) : Obj := ⟨(.type "tuple"), none, (.seq ⟨[(sv "thing" 1035)]⟩ 0), ⟨[]⟩⟩
def o542_4 (P : Params) : Obj := ⟨(.type "tuple"), none, (.seq ⟨[]⟩ 0), ⟨[]⟩⟩
def o543_4 (P : Params) : Obj := ⟨.none, none, (.func ⟨(ns "is_number"), (ns "is_number"), defArgs (top 40), .stmts (defBody (top 40)), defScope (top 40), 0, [], .none, .none, .none, .none, none, .none, .none, 0⟩), ⟨[]⟩⟩
def o544_4 (P : Params) : Obj := ⟨(.type "code"), none, (.fields ⟨[(sv "is_number" 1032), (sv "is_number" 1033), (sv "/claim/cut.py" 1034), (.int (275) 0), (.int (1) 0), (.int (0) 0), (.int (0) 0), (.int (3) 0), (.ref 539), (.bool true), (.int (370) 0), (.ref 540), .none, (.ref 541), (.ref 542), (.ref 543), (.int (1036) 0), (.int (275) 0), (sv "/claim/cut.py" 1037)]⟩), ⟨[]⟩⟩
def o545_4 (P : Params) : Obj := ⟨(.type "function"), none, (.func ⟨(ns "is_number"), (ns "is_number"), defArgs (top 40), .stmts (defBody (top 40)), defScope (top 40), 3, [], .none, .none, .none, (sv "watchedways.ratios" 916), none, (.ref 544), .none, 0⟩), ⟨[]⟩⟩
def o546_4 (P : Params) : Obj := ⟨(.type "tuple"), none, (.seq ⟨[]⟩ 0), ⟨[]⟩⟩
def o547_4 (P : Params) : Obj := ⟨.none, none, (.fields ⟨[]⟩), ⟨[]⟩⟩
def o548_4 (P : Params) : Obj := ⟨(.type "tuple"), none, (.seq ⟨[(sv "thing" 1042)]⟩ 0), ⟨[]⟩⟩
def o549_4 (P : Params) : Obj := ⟨(.type "tuple"), none, (.seq ⟨[]⟩ 0), ⟨[]⟩⟩
def o550_4 (P : Params) : Obj := ⟨.none, none, (.func ⟨(ns "as_ratio"), (ns "as_ratio"), defArgs (top 41), .stmts (defBody (top 41)), defScope (top 41), 0, [], .none, .none, .none, .none, none, .none, .none, 0⟩), ⟨[]⟩⟩
def o551_4 (P : Params) : Obj := ⟨(.type "code"), none, (.fields ⟨[(sv "as_ratio" 1039), (sv "as_ratio" 1040), (sv "/claim/cut.py" 1041), (.int (277) 0), (.int (1) 0), (.int (0) 0), (.int (0) 0), (.int (3) 0), (.ref 546), (.bool true), (.int (370) 0), (.ref 547), .none, (.ref 548), (.ref 549), (.ref 550), (.int (1043) 0), (.int (277) 0), (sv "/claim/cut.py" 1044)]⟩), ⟨[]⟩⟩
def o552_4 (P : Params) : Obj := ⟨(.type "function"), none, (.func ⟨(ns "as_ratio"), (ns "as_ratio"), defArgs (top 41), .stmts (defBody (top 41)), defScope (top 41), 3, [], .none, .none, .none, (sv "watchedways.ratios" 916), none, (.ref 551), .none, 0⟩), ⟨[]⟩⟩
def o553_4 (P : Params) : Obj := ⟨(.type "tuple"), none, (.seq ⟨[]⟩ 0), ⟨[]⟩⟩
def o554_4 (P : Params) : Obj := ⟨.none, none, (.fields ⟨[]⟩), ⟨[]⟩⟩
def o555_4 (P : Params) : Obj := ⟨(.type "tuple"), none, (.seq ⟨[(sv "one" 1049), (sv "other" 1050)]⟩ 0), ⟨[]⟩⟩
def o556_4 (P : Params) : Obj := ⟨(.type "tuple"), none, (.seq ⟨[]⟩ 0), ⟨[]⟩⟩
def o557_4 (P : Params) : Obj := ⟨.none, none, (.func ⟨(ns "sum_of"), (ns "sum_of"), defArgs (top 42), .stmts (defBody (top 42)), defScope (top 42), 0, [], .none, .none, .none, .none, none, .none, .none, 0⟩), ⟨[]⟩⟩
def o558_4 (P : Params) : Obj := ⟨(.type "code"), none, (.fields ⟨[(sv "sum_of" 1046), (sv "sum_of" 1047), (sv "/claim/cut.py" 1048), (.int (279) 0), (.int (2) 0), (.int (0) 0), (.int (0) 0), (.int (3) 0), (.ref 553), (.bool true), (.int (370) 0), (.ref 554), .none, (.ref 555), (.ref 556), (.ref 557), (.int (1051) 0), (.int (279) 0), (sv "/claim/cut.py" 1052)]⟩), ⟨[]⟩⟩
def o559_4 (P : Params) : Obj := ⟨(.type "function"), none, (.func ⟨(ns "sum_of"), (ns "sum_of"), defArgs (top 42), .stmts (defBody (top 42)), defScope (top 42), 3, [], .none, .none, .none, (sv "watchedways.ratios" 916), none, (.ref 558), .none, 0⟩), ⟨[]⟩⟩
def o560_4 (P : Params) : Obj := ⟨(.type "tuple"), none, (.seq ⟨[]⟩ 0), ⟨[]⟩⟩
def o561_4 (P : Params) : Obj := ⟨.none, none, (.fields ⟨[]⟩), ⟨[]⟩⟩
def o562_4 (P : Params) : Obj := ⟨(.type "tuple"), none, (.seq ⟨[(sv "one" 1057), (sv "other" 1058)]⟩ 0), ⟨[]⟩⟩
def o563_4 (P : Params) : Obj := ⟨(.type "tuple"), none, (.seq ⟨[]⟩ 0), ⟨[]⟩⟩
def o564_4 (P : Params) : Obj := ⟨.none, none, (.func ⟨(ns "product_of"), (ns "product_of"), defArgs (top 43), .stmts (defBody (top 43)), defScope (top 43), 0, [], .none, .none, .none, .none, none, .none, .none, 0⟩), ⟨[]⟩⟩
def o565_4 (P : Params) : Obj := ⟨(.type "code"), none, (.fields ⟨[(sv "product_of" 1054), (sv "product_of" 1055), (sv "/claim/cut.py" 1056), (.int (281) 0), (.int (2) 0), (.int (0) 0), (.int (0) 0), (.int (3) 0), (.ref 560), (.bool true), (.int (370) 0), (.ref 561), .none, (.ref 562), (.ref 563), (.ref 564), (.int (1059) 0), (.int (281) 0), (sv "/claim/cut.py" 1060)]⟩), ⟨[]⟩⟩
def o566_4 (P : Params) : Obj := ⟨(.type "function"), none, (.func ⟨(ns "product_of"), (ns "product_of"), defArgs (top 43), .stmts (defBody (top 43)), defScope (top 43), 3, [], .none, .none, .none, (sv "watchedways.ratios" 916), none, (.ref 565), .none, 0⟩), ⟨[]⟩⟩
def o567_4 (P : Params) : Obj := ⟨(.type "tuple"), none, (.seq ⟨[]⟩ 0), ⟨[]⟩⟩
def o568_4 (P : Params) : Obj := ⟨(.type "builtin_function_or_method"), none, (.fields ⟨[(.builtin "type.__prepare__"), (.type "type")]⟩), ⟨[]⟩⟩
def o569_4 (P : Params) : Obj := ⟨(.type "dict"), none, (.dict ⟨[en P "__module__" 1071 (sv "watchedways.numbers" 1062), en P "__qualname__" 1073 (sv "Numbers" 1072), en P "__firstlineno__" 1075 (.int (284) 1074), en P "__init__" 1082 (.ref 580), en P "__eq__" 1090 (.ref 587), en P "is_worth" 1098 (.ref 594), en P "join" 1107 (.ref 601), en P "times" 1116 (.ref 608), en P "__static_attributes__" 1119 (.ref 609)]⟩ 9), ⟨[]⟩⟩
def o570_4 (P : Params) : Obj := ⟨(.type "tuple"), none, (.seq ⟨[]⟩ 0), ⟨[]⟩⟩
def o571_4 (P : Params) : Obj := ⟨.none, none, (.fields ⟨[(.int (286) 0), (.int (4) 0), (.ref 579), (.int (290) 0), (.int (4) 0), (.ref 586), (.int (293) 0), (.int (4) 0), (.ref 593), (.int (296) 0), (.int (4) 0), (.ref 600), (.int (300) 0), (.int (4) 0), (.ref 607)]⟩), ⟨[]⟩⟩
def o572_4 (P : Params) : Obj := ⟨(.type "code"), none, (.fields ⟨[(sv "Numbers" 1066), (sv "Numbers" 1067), (sv "/claim/cut.py" 1068), (.int (284) 0), (.int (0) 0), (.int (0) 0), (.int (0) 0), (.int (0) 0), (.ref 570), (.bool false), (.int (370) 0), (.ref 571), .none, .none, .none, .none, (.int (1069) 0), (.int (284) 0), (sv "/claim/cut.py" 1070)]⟩), ⟨[]⟩⟩
def o573_4 (P : Params) : Obj := ⟨(.type "frame"), none, .plain, ⟨[(some (.ref 572)), (some (.ref 3)), (some (.ref 569)), none, (some (sv "watchedways.numbers" 1062)), none, (some (.ref 0))]⟩⟩
def o574_4 (P : Params) : Obj := ⟨(.type "tuple"), none, (.seq ⟨[]⟩ 0), ⟨[]⟩⟩
def o575_4 (P : Params) : Obj := ⟨.none, none, (.fields ⟨[]⟩), ⟨[]⟩⟩
def o576_4 (P : Params) : Obj := ⟨(.type "tuple"), none, (.seq ⟨[(sv "self" 1079)]⟩ 0), ⟨[]⟩⟩
def o577_4 (P : Params) : Obj := ⟨(.type "tuple"), none, (.seq ⟨[]⟩ 0), ⟨[]⟩⟩
def o578_4 (P : Params) : Obj := ⟨.none, none, (.func ⟨(ns "__init__"), (ns "Numbers.__init__"), defArgs (subS (top 45) 0), .stmts (defBody (subS (top 45) 0)), defScope (subS (top 45) 0), 0, [], .none, .none, .none, .none, none, .none, .none, 0⟩), ⟨[]⟩⟩
def o579_4 (P : Params) : Obj := ⟨(.type "code"), none, (.fields ⟨[(sv "__init__" 1076), (sv "Numbers.__init__" 1077), (sv "/claim/cut.py" 1078), (.int (286) 0), (.int (1) 0), (.int (0) 0), (.int (0) 0), (.int (3) 0), (.ref 574), (.bool true), (.int (370) 0), (.ref 575), .none, (.ref 576), (.ref 577), (.ref 578), (.int (1080) 0), (.int (286) 0), (sv "/claim/cut.py" 1081)]⟩), ⟨[]⟩⟩
def o580_4 (P : Params) : Obj := ⟨(.type "function"), none, (.func ⟨(ns "__init__"), (ns "Numbers.__init__"), defArgs (subS (top 45) 0), .stmts (defBody (subS (top 45) 0)), defScope (subS (top 45) 0), 3, [], .none, .none, .none, (sv "watchedways.numbers" 1062), none, (.ref 579), .none, 0⟩), ⟨[]⟩⟩
def o581_4 (P : Params) : Obj := ⟨(.type "tuple"), none, (.seq ⟨[]⟩ 0), ⟨[]⟩⟩
def o582_4 (P : Params) : Obj := ⟨.none, none, (.fields ⟨[]⟩), ⟨[]⟩⟩
def o583_4 (P : Params) : Obj := ⟨(.type "tuple"), none, (.seq ⟨[(sv "self" 1086), (sv "other" 1087)]⟩ 0), ⟨[]⟩⟩
def o584_4 (P : Params) : Obj := ⟨(.type "tuple"), none, (.seq ⟨[]⟩ 0), ⟨[]⟩⟩
def o585_4 (P : Params) : Obj := ⟨.none, none, (.func ⟨(ns "__eq__"), (ns "Numbers.__eq__"), defArgs (subS (top 45) 1), .stmts (defBody (subS (top 45) 1)), defScope (subS (top 45) 1), 0, [], .none, .none, .none, .none, none, .none, .none, 0⟩), ⟨[]⟩⟩
def o586_4 (P : Params) : Obj := ⟨(.type "code"), none, (.fields ⟨[(sv "__eq__" 1083), (sv "Numbers.__eq__" 1084), (sv "/claim/cut.py" 1085), (.int (290) 0), (.int (2) 0), (.int (0) 0), (.int (0) 0), (.int (3) 0), (.ref 581), (.bool true), (.int (370) 0), (.ref 582), .none, (.ref 583), (.ref 584), (.ref 585), (.int (1088) 0), (.int (290) 0), (sv "/claim/cut.py" 1089)]⟩), ⟨[]⟩⟩
def o587_4 (P : Params) : Obj := ⟨(.type "function"), none, (.func ⟨(ns "__eq__"), (ns "Numbers.__eq__"), defArgs (subS (top 45) 1), .stmts (defBody (subS (top 45) 1)), defScope (subS (top 45) 1), 3, [], .none, .none, .none, (sv "watchedways.numbers" 1062), none, (.ref 586), .none, 0⟩), ⟨[]⟩⟩
def o588_4 (P : Params) : Obj := ⟨(.type "tuple"), none, (.seq ⟨[]⟩ 0), ⟨[]⟩⟩
def o589_4 (P : Params) : Obj := ⟨.none, none, (.fields ⟨[]⟩), ⟨[]⟩⟩
def o590_4 (P : Params) : Obj := ⟨(.type "tuple"), none, (.seq ⟨[(sv "self" 1094), (sv "thing" 1095)]⟩ 0), ⟨[]⟩⟩
def o591_4 (P : Params) : Obj := ⟨(.type "tuple"), none, (.seq ⟨[]⟩ 0), ⟨[]⟩⟩
def o592_4 (P : Params) : Obj := ⟨.none, none, (.func ⟨(ns "is_worth"), (ns "Numbers.is_worth"), defArgs (subS (top 45) 2), .stmts (defBody (subS (top 45) 2)), defScope (subS (top 45) 2), 0, [], .none, .none, .none, .none, none, .none, .none, 0⟩), ⟨[]⟩⟩
def o593_4 (P : Params) : Obj := ⟨(.type "code"), none, (.fields ⟨[(sv "is_worth" 1091), (sv "Numbers.is_worth" 1092), (sv "/claim/cut.py" 1093), (.int (293) 0), (.int (2) 0), (.int (0) 0), (.int (0) 0), (.int (3) 0), (.ref 588), (.bool true), (.int (370) 0), (.ref 589), .none, (.ref 590), (.ref 591), (.ref 592), (.int (1096) 0), (.int (293) 0), (sv "/claim/cut.py" 1097)]⟩), ⟨[]⟩⟩
def o594_4 (P : Params) : Obj := ⟨(.type "function"), none, (.func ⟨(ns "is_worth"), (ns "Numbers.is_worth"), defArgs (subS (top 45) 2), .stmts (defBody (subS (top 45) 2)), defScope (subS (top 45) 2), 3, [], .none, .none, .none, (sv "watchedways.numbers" 1062), none, (.ref 593), .none, 0⟩), ⟨[]⟩⟩
def o595_4 (P : Params) : Obj := ⟨(.type "tuple"), none, (.seq ⟨[]⟩ 0), ⟨[]⟩⟩
def o596_4 (P : Params) : Obj := ⟨.none, none, (.fields ⟨[]⟩), ⟨[]⟩⟩
def o597_4 (P : Params) : Obj := ⟨(.type "tuple"), none, (.seq ⟨[(sv "self" 1102), (sv "a" 1103), (sv "b" 1104)]⟩ 0), ⟨[]⟩⟩
def o598_4 (P : Params) : Obj := ⟨(.type "tuple"), none, (.seq ⟨[]⟩ 0), ⟨[]⟩⟩
def o599_4 (P : Params) : Obj := ⟨.none, none, (.func ⟨(ns "join"), (ns "Numbers.join"), defArgs (subS (top 45) 3), .stmts (defBody (subS (top 45) 3)), defScope (subS (top 45) 3), 0, [], .none, .none, .none, .none, none, .none, .none, 0⟩), ⟨[]⟩⟩
def o600_4 (P : Params) : Obj := ⟨(.type "code"), none, (.fields ⟨[(sv "join" 1099), (sv "Numbers.join" 1100), (sv "/claim/cut.py" 1101), (.int (296) 0), (.int (3) 0), (.int (0) 0), (.int (0) 0), (.int (3) 0), (.ref 595), (.bool true), (.int (370) 0), (.ref 596), .none, (.ref 597), (.ref 598), (.ref 599), (.int (1105) 0), (.int (296) 0), (sv "/claim/cut.py" 1106)]⟩), ⟨[]⟩⟩
def o601_4 (P : Params) : Obj := ⟨(.type "function"), none, (.func ⟨(ns "join"), (ns "Numbers.join"), defArgs (subS (top 45) 3), .stmts (defBody (subS (top 45) 3)), defScope (subS (top 45) 3), 3, [], .none, .none, .none, (sv "watchedways.numbers" 1062), none, (.ref 600), .none, 0⟩), ⟨[]⟩⟩
def o602_4 (P : Params) : Obj := ⟨(.type "tuple"), none, (.seq ⟨[]⟩ 0), ⟨[]⟩⟩
def o603_4 (P : Params) : Obj := ⟨.none, none, (.fields ⟨[]⟩), ⟨[]⟩⟩
def o604_4 (P : Params) : Obj := ⟨(.type "tuple"), none, (.seq ⟨[(sv "self" 1111), (sv "a" 1112), (sv "b" 1113)]⟩ 0), ⟨[]⟩⟩
def o605_4 (P : Params) : Obj := ⟨(.type "tuple"), none, (.seq ⟨[]⟩ 0), ⟨[]⟩⟩
def o606_4 (P : Params) : Obj := ⟨.none, none, (.func ⟨(ns "times"), (ns "Numbers.times"), defArgs (subS (top 45) 4), .stmts (defBody (subS (top 45) 4)), defScope (subS (top 45) 4), 0, [], .none, .none, .none, .none, none, .none, .none, 0⟩), ⟨[]⟩⟩
def o607_4 (P : Params) : Obj := ⟨(.type "code"), none, (.fields ⟨[(sv "times" 1108), (sv "Numbers.times" 1109), (sv "/claim/cut.py" 1110), (.int (300) 0), (.int (3) 0), (.int (0) 0), (.int (0) 0), (.int (3) 0), (.ref 602), (.bool true), (.int (370) 0), (.ref 603), .none, (.ref 604), (.ref 605), (.ref 606), (.int (1114) 0), (.int (300) 0), (sv "/claim/cut.py" 1115)]⟩), ⟨[]⟩⟩
def o608_4 (P : Params) : Obj := ⟨(.type "function"), none, (.func ⟨(ns "times"), (ns "Numbers.times"), defArgs (subS (top 45) 4), .stmts (defBody (subS (top 45) 4)), defScope (subS (top 45) 4), 3, [], .none, .none, .none, (sv "watchedways.numbers" 1062), none, (.ref 607), .none, 0⟩), ⟨[]⟩⟩
def o609_4 (P : Params) : Obj := ⟨(.type "tuple"), none, (.seq ⟨[(sv "none" 1117), (sv "one" 1118)]⟩ 0), ⟨[]⟩⟩
def o610_4 (P : Params) : Obj := ⟨(.type "dict"), none, (.dict ⟨[en P "__module__" 1071 (sv "watchedways.numbers" 1062), en P "__firstlineno__" 1075 (.int (284) 1074), en P "__init__" 1082 (.ref 580), en P "__eq__" 1090 (.ref 587), en P "is_worth" 1098 (.ref 594), en P "join" 1107 (.ref 601), en P "times" 1116 (.ref 608), en P "__static_attributes__" 1119 (.ref 609), en P "__dict__" 1121 (.ref 612), en P "__weakref__" 1123 (.ref 613), en P "__doc__" 1124 .none, en P "__hash__" 1125 .none]⟩ 5), ⟨[]⟩⟩
def o611_4 (P : Params) : Obj := ⟨(.type "type"), none, (.cls ⟨(ns "Numbers"), [(.type "object")], [(.ref 611), (.type "object")], 610, (ns "Numbers"), true, [], [], false, none, false⟩), ⟨[none, none, (some (sv "Numbers" 1064)), (some (sv "Numbers" 1072)), (some (.builtin "object.__new__")), (some (.bool true))]⟩⟩
def o612_4 (P : Params) : Obj := ⟨(.type "getset_descriptor"), none, (.fields ⟨[(sv "__dict__" 1120), (.ref 611), (.builtin "function.__dict__"), (.builtin "function.__dict__#set")]⟩), ⟨[]⟩⟩
def o613_4 (P : Params) : Obj := ⟨(.type "getset_descriptor"), none, (.fields ⟨[(sv "__weakref__" 1122), (.ref 611), (.builtin "ExceptionGroup.__weakref__"), .none]⟩), ⟨[]⟩⟩
def o614_4 (P : Params) : Obj := ⟨(.type "super"), none, (.fields ⟨[(.ref 611), (.ref 611), (.ref 611)]⟩), ⟨[]⟩⟩
def o615_4 (P : Params) : Obj := ⟨(.type "builtin_function_or_method"), none, (.fields ⟨[(.builtin "object.__init_subclass__"), (.ref 611)]⟩), ⟨[]⟩⟩
def o616_4 (P : Params) : Obj := ⟨(.type "tuple"), none, (.seq ⟨[]⟩ 0), ⟨[]⟩⟩
def o617_4 (P : Params) : Obj := ⟨.none, none, (.fields ⟨[]⟩), ⟨[]⟩⟩
def o618_4 (P : Params) : Obj := ⟨.none, none, (.func ⟨(ns "_law_hand"), (ns "_law_hand"), defArgs (top 47), .stmts (defBody (top 47)), defScope (top 47), 0, [], .none, .none, .none, .none, none, .none, .none, 0⟩), ⟨[]⟩⟩
def o619_4 (P : Params) : Obj := ⟨(.type "code"), none, (.fields ⟨[(sv "_law_hand" 1130), (sv "_law_hand" 1131), (sv "/claim/cut.py" 1132), (.int (303) 0), (.int (1) 0), (.int (0) 0), (.int (0) 0), (.int (3) 0), (.ref 616), (.bool true), (.int (370) 0), (.ref 617), .none, .none, .none, (.ref 618), (.int (1133) 0), (.int (303) 0), (sv "/claim/cut.py" 1134)]⟩), ⟨[]⟩⟩
def o620_4 (P : Params) : Obj := ⟨(.type "function"), none, (.func ⟨(ns "_law_hand"), (ns "_law_hand"), defArgs (top 47), .stmts (defBody (top 47)), defScope (top 47), 3, [], .none, .none, .none, (sv "law_watchedways_k33_turned_and_beside" 1128), none, (.ref 619), .none, 0⟩), ⟨[]⟩⟩
def o621_4 (P : Params) : Obj := ⟨(.type "tuple"), none, (.seq ⟨[]⟩ 0), ⟨[]⟩⟩
def o622_4 (P : Params) : Obj := ⟨.none, none, (.fields ⟨[]⟩), ⟨[]⟩⟩
def o623_4 (P : Params) : Obj := ⟨(.type "tuple"), none, (.seq ⟨[(sv "hand" 1139), (sv "many" 1140), (sv "cell" 1141), (sv "digit" 1142), (sv "number" 1143)]⟩ 0), ⟨[]⟩⟩
def o624_4 (P : Params) : Obj := ⟨(.type "tuple"), none, (.seq ⟨[]⟩ 0), ⟨[]⟩⟩
def o625_4 (P : Params) : Obj := ⟨.none, none, (.func ⟨(ns "_law_draw"), (ns "_law_draw"), defArgs (top 48), .stmts (defBody (top 48)), defScope (top 48), 0, [], .none, .none, .none, .none, none, .none, .none, 0⟩), ⟨[]⟩⟩
def o626_4 (P : Params) : Obj := ⟨(.type "code"), none, (.fields ⟨[(sv "_law_draw" 1136), (sv "_law_draw" 1137), (sv "/claim/cut.py" 1138), (.int (306) 0), (.int (2) 0), (.int (0) 0), (.int (0) 0), (.int (3) 0), (.ref 621), (.bool true), (.int (370) 0), (.ref 622), .none, (.ref 623), (.ref 624), (.ref 625), (.int (1144) 0), (.int (306) 0), (sv "/claim/cut.py" 1145)]⟩), ⟨[]⟩⟩
def o627_4 (P : Params) : Obj := ⟨(.type "function"), none, (.func ⟨(ns "_law_draw"), (ns "_law_draw"), defArgs (top 48), .stmts (defBody (top 48)), defScope (top 48), 3, [], .none, .none, .none, (sv "law_watchedways_k33_turned_and_beside" 1128), none, (.ref 626), .none, 0⟩), ⟨[]⟩⟩
def o628_4 (P : Params) : Obj := ⟨(.type "tuple"), none, (.seq ⟨[]⟩ 0), ⟨[]⟩⟩
def o629_4 (P : Params) : Obj := ⟨.none, none, (.fields ⟨[]⟩), ⟨[]⟩⟩
def o630_4 (P : Params) : Obj := ⟨.none, none, (.func ⟨(ns "_law_chain"), (ns "_law_chain"), defArgs (top 49), .stmts (defBody (top 49)), defScope (top 49), 0, [], .none, .none, .none, .none, none, .none, .none, 0⟩), ⟨[]⟩⟩
def o631_4 (P : Params) : Obj := ⟨(.type "code"), none, (.fields ⟨[(sv "_law_chain" 1147), (sv "_law_chain" 1148), (sv "/claim/cut.py" 1149), (.int (322) 0), (.int (1) 0), (.int (0) 0), (.int (0) 0), (.int (3) 0), (.ref 628), (.bool true), (.int (370) 0), (.ref 629), .none, .none, .none, (.ref 630), (.int (1150) 0), (.int (322) 0), (sv "/claim/cut.py" 1151)]⟩), ⟨[]⟩⟩
def o632_4 (P : Params) : Obj := ⟨(.type "function"), none, (.func ⟨(ns "_law_chain"), (ns "_law_chain"), defArgs (top 49), .stmts (defBody (top 49)), defScope (top 49), 3, [], .none, .none, .none, (sv "law_watchedways_k33_turned_and_beside" 1128), none, (.ref 631), .none, 0⟩), ⟨[]⟩⟩
def o633_4 (P : Params) : Obj := ⟨(.type "tuple"), none, (.seq ⟨[]⟩ 0), ⟨[]⟩⟩
def o634_4 (P : Params) : Obj := ⟨.none, none, (.fields ⟨[]⟩), ⟨[]⟩⟩
def o635_4 (P : Params) : Obj := ⟨.none, none, (.func ⟨(ns "_law_products"), (ns "_law_products"), defArgs (top 50), .stmts (defBody (top 50)), defScope (top 50), 0, [], .none, .none, .none, .none, none, .none, .none, 0⟩), ⟨[]⟩⟩
def o636_4 (P : Params) : Obj := ⟨(.type "code"), none, (.fields ⟨[(sv "_law_products" 1153), (sv "_law_products" 1154), (sv "/claim/cut.py" 1155), (.int (325) 0), (.int (1) 0), (.int (0) 0), (.int (0) 0), (.int (3) 0), (.ref 633), (.bool true), (.int (370) 0), (.ref 634), .none, .none, .none, (.ref 635), (.int (1156) 0), (.int (325) 0), (sv "/claim/cut.py" 1157)]⟩), ⟨[]⟩⟩
def o637_4 (P : Params) : Obj := ⟨(.type "function"), none, (.func ⟨(ns "_law_products"), (ns "_law_products"), defArgs (top 50), .stmts (defBody (top 50)), defScope (top 50), 3, [], .none, .none, .none, (sv "law_watchedways_k33_turned_and_beside" 1128), none, (.ref 636), .none, 0⟩), ⟨[]⟩⟩
def o638_4 (P : Params) : Obj := ⟨(.type "tuple"), none, (.seq ⟨[]⟩ 0), ⟨[]⟩⟩
def o639_4 (P : Params) : Obj := ⟨.none, none, (.fields ⟨[]⟩), ⟨[]⟩⟩
def o640_4 (P : Params) : Obj := ⟨(.type "tuple"), none, (.seq ⟨[(sv "hand" 1162), (sv "found" 1163)]⟩ 0), ⟨[]⟩⟩
def o641_4 (P : Params) : Obj := ⟨(.type "tuple"), none, (.seq ⟨[]⟩ 0), ⟨[]⟩⟩
def o642_4 (P : Params) : Obj := ⟨.none, none, (.func ⟨(ns "_law_monoid"), (ns "_law_monoid"), defArgs (top 51), .stmts (defBody (top 51)), defScope (top 51), 0, [], .none, .none, .none, .none, none, .none, .none, 0⟩), ⟨[]⟩⟩
def o643_4 (P : Params) : Obj := ⟨(.type "code"), none, (.fields ⟨[(sv "_law_monoid" 1159), (sv "_law_monoid" 1160), (sv "/claim/cut.py" 1161), (.int (336) 0), (.int (1) 0), (.int (0) 0), (.int (0) 0), (.int (3) 0), (.ref 638), (.bool true), (.int (370) 0), (.ref 639), .none, (.ref 640), (.ref 641), (.ref 642), (.int (1164) 0), (.int (336) 0), (sv "/claim/cut.py" 1165)]⟩), ⟨[]⟩⟩
def o644_4 (P : Params) : Obj := ⟨(.type "function"), none, (.func ⟨(ns "_law_monoid"), (ns "_law_monoid"), defArgs (top 51), .stmts (defBody (top 51)), defScope (top 51), 3, [], .none, .none, .none, (sv "law_watchedways_k33_turned_and_beside" 1128), none, (.ref 643), .none, 0⟩), ⟨[]⟩⟩
def o645_4 (P : Params) : Obj := ⟨(.type "tuple"), none, (.seq ⟨[]⟩ 0), ⟨[]⟩⟩
def o646_4 (P : Params) : Obj := ⟨.none, none, (.fields ⟨[]⟩), ⟨[]⟩⟩
def o647_4 (P : Params) : Obj := ⟨(.type "tuple"), none, (.seq ⟨[(sv "products" 1170), (sv "one" 1171), (sv "other" 1172), (sv "found" 1173), (sv "many" 1174), (sv "x" 1175), (sv "y" 1176)]⟩ 0), ⟨[]⟩⟩
def o648_4 (P : Params) : Obj := ⟨(.type "tuple"), none, (.seq ⟨[]⟩ 0), ⟨[]⟩⟩
def o649_4 (P : Params) : Obj := ⟨.none, none, (.func ⟨(ns "_law_lot"), (ns "_law_lot"), defArgs (top 52), .stmts (defBody (top 52)), defScope (top 52), 0, [], .none, .none, .none, .none, none, .none, .none, 0⟩), ⟨[]⟩⟩
def o650_4 (P : Params) : Obj := ⟨(.type "code"), none, (.fields ⟨[(sv "_law_lot" 1167), (sv "_law_lot" 1168), (sv "/claim/cut.py" 1169), (.int (341) 0), (.int (3) 0), (.int (0) 0), (.int (0) 0), (.int (3) 0), (.ref 645), (.bool true), (.int (370) 0), (.ref 646), .none, (.ref 647), (.ref 648), (.ref 649), (.int (1177) 0), (.int (341) 0), (sv "/claim/cut.py" 1178)]⟩), ⟨[]⟩⟩
def o651_4 (P : Params) : Obj := ⟨(.type "function"), none, (.func ⟨(ns "_law_lot"), (ns "_law_lot"), defArgs (top 52), .stmts (defBody (top 52)), defScope (top 52), 3, [], .none, .none, .none, (sv "law_watchedways_k33_turned_and_beside" 1128), none, (.ref 650), .none, 0⟩), ⟨[]⟩⟩
def o652_4 (P : Params) : Obj := ⟨(.type "tuple"), none, (.seq ⟨[]⟩ 0), ⟨[]⟩⟩
def o653_4 (P : Params) : Obj := ⟨.none, none, (.fields ⟨[]⟩), ⟨[]⟩⟩
def o654_4 (P : Params) : Obj := ⟨.none, none, (.func ⟨(ns "_law_lots"), (ns "_law_lots"), defArgs (top 53), .stmts (defBody (top 53)), defScope (top 53), 0, [], .none, .none, .none, .none, none, .none, .none, 0⟩), ⟨[]⟩⟩
def o655_4 (P : Params) : Obj := ⟨(.type "code"), none, (.fields ⟨[(sv "_law_lots" 1180), (sv "_law_lots" 1181), (sv "/claim/cut.py" 1182), (.int (349) 0), (.int (2) 0), (.int (0) 0), (.int (0) 0), (.int (3) 0), (.ref 652), (.bool true), (.int (370) 0), (.ref 653), .none, .none, .none, (.ref 654), (.int (1183) 0), (.int (349) 0), (sv "/claim/cut.py" 1184)]⟩), ⟨[]⟩⟩
def o656_4 (P : Params) : Obj := ⟨(.type "function"), none, (.func ⟨(ns "_law_lots"), (ns "_law_lots"), defArgs (top 53), .stmts (defBody (top 53)), defScope (top 53), 3, [], .none, .none, .none, (sv "law_watchedways_k33_turned_and_beside" 1128), none, (.ref 655), .none, 0⟩), ⟨[]⟩⟩
def o657_4 (P : Params) : Obj := ⟨(.type "tuple"), none, (.seq ⟨[]⟩ 0), ⟨[]⟩⟩
def o658_4 (P : Params) : Obj := ⟨.none, none, (.fields ⟨[]⟩), ⟨[]⟩⟩
def o659_4 (P : Params) : Obj := ⟨(.type "tuple"), none, (.seq ⟨[(sv "one" 1189), (sv "other" 1190), (sv "many" 1191), (sv "found" 1192), (sv "a" 1193), (sv "row" 1194), (sv "b" 1195)]⟩ 0), ⟨[]⟩⟩
def o660_4 (P : Params) : Obj := ⟨(.type "tuple"), none, (.seq ⟨[]⟩ 0), ⟨[]⟩⟩
def o661_4 (P : Params) : Obj := ⟨.none, none, (.func ⟨(ns "_law_paired"), (ns "_law_paired"), defArgs (top 54), .stmts (defBody (top 54)), defScope (top 54), 0, [], .none, .none, .none, .none, none, .none, .none, 0⟩), ⟨[]⟩⟩
def o662_4 (P : Params) : Obj := ⟨(.type "code"), none, (.fields ⟨[(sv "_law_paired" 1186), (sv "_law_paired" 1187), (sv "/claim/cut.py" 1188), (.int (353) 0), (.int (2) 0), (.int (0) 0), (.int (0) 0), (.int (3) 0), (.ref 657), (.bool true), (.int (370) 0), (.ref 658), .none, (.ref 659), (.ref 660), (.ref 661), (.int (1196) 0), (.int (353) 0), (sv "/claim/cut.py" 1197)]⟩), ⟨[]⟩⟩
def o663_4 (P : Params) : Obj := ⟨(.type "function"), none, (.func ⟨(ns "_law_paired"), (ns "_law_paired"), defArgs (top 54), .stmts (defBody (top 54)), defScope (top 54), 3, [], .none, .none, .none, (sv "law_watchedways_k33_turned_and_beside" 1128), none, (.ref 662), .none, 0⟩), ⟨[]⟩⟩
def o664_4 (P : Params) : Obj := ⟨(.type "tuple"), none, (.seq ⟨[]⟩ 0), ⟨[]⟩⟩
def o665_4 (P : Params) : Obj := ⟨.none, none, (.fields ⟨[]⟩), ⟨[]⟩⟩
def o666_4 (P : Params) : Obj := ⟨(.type "tuple"), none, (.seq ⟨[(sv "one" 1202), (sv "other" 1203), (sv "many" 1204), (sv "parts" 1205)]⟩ 0), ⟨[]⟩⟩
def o667_4 (P : Params) : Obj := ⟨(.type "tuple"), none, (.seq ⟨[]⟩ 0), ⟨[]⟩⟩
def o668_4 (P : Params) : Obj := ⟨.none, none, (.func ⟨(ns "_law_beside"), (ns "_law_beside"), defArgs (top 55), .stmts (defBody (top 55)), defScope (top 55), 0, [], .none, .none, .none, .none, none, .none, .none, 0⟩), ⟨[]⟩⟩
def o669_4 (P : Params) : Obj := ⟨(.type "code"), none, (.fields ⟨[(sv "_law_beside" 1199), (sv "_law_beside" 1200), (sv "/claim/cut.py" 1201), (.int (362) 0), (.int (2) 0), (.int (0) 0), (.int (0) 0), (.int (3) 0), (.ref 664), (.bool true), (.int (370) 0), (.ref 665), .none, (.ref 666), (.ref 667), (.ref 668), (.int (1206) 0), (.int (362) 0), (sv "/claim/cut.py" 1207)]⟩), ⟨[]⟩⟩
def o670_4 (P : Params) : Obj := ⟨(.type "function"), none, (.func ⟨(ns "_law_beside"), (ns "_law_beside"), defArgs (top 55), .stmts (defBody (top 55)), defScope (top 55), 3, [], .none, .none, .none, (sv "law_watchedways_k33_turned_and_beside" 1128), none, (.ref 669), .none, 0⟩), ⟨[]⟩⟩
def o671_4 (P : Params) : Obj := ⟨(.type "tuple"), none, (.seq ⟨[]⟩ 0), ⟨[]⟩⟩
def o672_4 (P : Params) : Obj := ⟨.none, none, (.fields ⟨[]⟩), ⟨[]⟩⟩
def o673_4 (P : Params) : Obj := ⟨.none, none, (.func ⟨(ns "_law_turned"), (ns "_law_turned"), defArgs (top 56), .stmts (defBody (top 56)), defScope (top 56), 0, [], .none, .none, .none, .none, none, .none, .none, 0⟩), ⟨[]⟩⟩
def o674_4 (P : Params) : Obj := ⟨(.type "code"), none, (.fields ⟨[(sv "_law_turned" 1209), (sv "_law_turned" 1210), (sv "/claim/cut.py" 1211), (.int (366) 0), (.int (1) 0), (.int (0) 0), (.int (0) 0), (.int (3) 0), (.ref 671), (.bool true), (.int (370) 0), (.ref 672), .none, .none, .none, (.ref 673), (.int (1212) 0), (.int (366) 0), (sv "/claim/cut.py" 1213)]⟩), ⟨[]⟩⟩
def o675_4 (P : Params) : Obj := ⟨(.type "function"), none, (.func ⟨(ns "_law_turned"), (ns "_law_turned"), defArgs (top 56), .stmts (defBody (top 56)), defScope (top 56), 3, [], .none, .none, .none, (sv "law_watchedways_k33_turned_and_beside" 1128), none, (.ref 674), .none, 0⟩), ⟨[]⟩⟩
def o676_4 (P : Params) : Obj := ⟨(.type "tuple"), none, (.seq ⟨[]⟩ 0), ⟨[]⟩⟩
def o677_4 (P : Params) : Obj := ⟨.none, none, (.fields ⟨[]⟩), ⟨[]⟩⟩
def o678_4 (P : Params) : Obj := ⟨(.type "tuple"), none, (.seq ⟨[(sv "hand" 1218), (sv "many" 1219), (sv "rest" 1220), (sv "found" 1221), (sv "turn" 1222)]⟩ 0), ⟨[]⟩⟩
def o679_4 (P : Params) : Obj := ⟨(.type "tuple"), none, (.seq ⟨[]⟩ 0), ⟨[]⟩⟩
def o680_4 (P : Params) : Obj := ⟨.none, none, (.func ⟨(ns "_law_order"), (ns "_law_order"), defArgs (top 57), .stmts (defBody (top 57)), defScope (top 57), 0, [], .none, .none, .none, .none, none, .none, .none, 0⟩), ⟨[]⟩⟩
def o681_4 (P : Params) : Obj := ⟨(.type "code"), none, (.fields ⟨[(sv "_law_order" 1215), (sv "_law_order" 1216), (sv "/claim/cut.py" 1217), (.int (369) 0), (.int (2) 0), (.int (0) 0), (.int (0) 0), (.int (3) 0), (.ref 676), (.bool true), (.int (370) 0), (.ref 677), .none, (.ref 678), (.ref 679), (.ref 680), (.int (1223) 0), (.int (369) 0), (sv "/claim/cut.py" 1224)]⟩), ⟨[]⟩⟩
def o682_4 (P : Params) : Obj := ⟨(.type "function"), none, (.func ⟨(ns "_law_order"), (ns "_law_order"), defArgs (top 57), .stmts (defBody (top 57)), defScope (top 57), 3, [], .none, .none, .none, (sv "law_watchedways_k33_turned_and_beside" 1128), none, (.ref 681), .none, 0⟩), ⟨[]⟩⟩
def o683_4 (P : Params) : Obj := ⟨(.type "tuple"), none, (.seq ⟨[]⟩ 0), ⟨[]⟩⟩
def o684_4 (P : Params) : Obj := ⟨.none, none, (.fields ⟨[]⟩), ⟨[]⟩⟩
def o685_4 (P : Params) : Obj := ⟨.none, none, (.func ⟨(ns "_law_renamed"), (ns "_law_renamed"), defArgs (top 58), .stmts (defBody (top 58)), defScope (top 58), 0, [], .none, .none, .none, .none, none, .none, .none, 0⟩), ⟨[]⟩⟩
def o686_4 (P : Params) : Obj := ⟨(.type "code"), none, (.fields ⟨[(sv "_law_renamed" 1226), (sv "_law_renamed" 1227), (sv "/claim/cut.py" 1228), (.int (375) 0), (.int (2) 0), (.int (0) 0), (.int (0) 0), (.int (3) 0), (.ref 683), (.bool true), (.int (370) 0), (.ref 684), .none, .none, .none, (.ref 685), (.int (1229) 0), (.int (375) 0), (sv "/claim/cut.py" 1230)]⟩), ⟨[]⟩⟩
def o687_4 (P : Params) : Obj := ⟨(.type "function"), none, (.func ⟨(ns "_law_renamed"), (ns "_law_renamed"), defArgs (top 58), .stmts (defBody (top 58)), defScope (top 58), 3, [], .none, .none, .none, (sv "law_watchedways_k33_turned_and_beside" 1128), none, (.ref 686), .none, 0⟩), ⟨[]⟩⟩
def o688_4 (P : Params) : Obj := ⟨(.type "tuple"), none, (.seq ⟨[]⟩ 0), ⟨[]⟩⟩
def o689_4 (P : Params) : Obj := ⟨.none, none, (.fields ⟨[]⟩), ⟨[]⟩⟩
def o690_4 (P : Params) : Obj := ⟨(.type "tuple"), none, (.seq ⟨[(sv "hand" 1235), (sv "kind" 1236), (sv "told" 1237), (sv "small" 1238), (sv "products" 1239), (sv "one" 1240)]⟩ 0), ⟨[]⟩⟩
def o691_4 (P : Params) : Obj := ⟨(.type "tuple"), none, (.seq ⟨[]⟩ 0), ⟨[]⟩⟩
def o692_4 (P : Params) : Obj := ⟨.none, none, (.func ⟨(ns "_law_made"), (ns "_law_made"), defArgs (top 59), .stmts (defBody (top 59)), defScope (top 59), 0, [], .none, .none, .none, .none, none, .none, .none, 0⟩), ⟨[]⟩⟩
def o693_4 (P : Params) : Obj := ⟨(.type "code"), none, (.fields ⟨[(sv "_law_made" 1232), (sv "_law_made" 1233), (sv "/claim/cut.py" 1234), (.int (382) 0), (.int (1) 0), (.int (0) 0), (.int (0) 0), (.int (3) 0), (.ref 688), (.bool true), (.int (370) 0), (.ref 689), .none, (.ref 690), (.ref 691), (.ref 692), (.int (1241) 0), (.int (382) 0), (sv "/claim/cut.py" 1242)]⟩), ⟨[]⟩⟩
def o694_4 (P : Params) : Obj := ⟨(.type "function"), none, (.func ⟨(ns "_law_made"), (ns "_law_made"), defArgs (top 59), .stmts (defBody (top 59)), defScope (top 59), 3, [], .none, .none, .none, (sv "law_watchedways_k33_turned_and_beside" 1128), none, (.ref 693), .none, 0⟩), ⟨[]⟩⟩
def o695_4 (P : Params) : Obj := ⟨(.type "tuple"), none, (.seq ⟨[]⟩ 0), ⟨[]⟩⟩
def o696_4 (P : Params) : Obj := ⟨.none, none, (.fields ⟨[]⟩), ⟨[]⟩⟩
def o697_4 (P : Params) : Obj := ⟨.none, none, (.func ⟨(ns "_law_rows"), (ns "_law_rows"), defArgs (top 60), .stmts (defBody (top 60)), defScope (top 60), 0, [], .none, .none, .none, .none, none, .none, .none, 0⟩), ⟨[]⟩⟩
def o698_4 (P : Params) : Obj := ⟨(.type "code"), none, (.fields ⟨[(sv "_law_rows" 1244), (sv "_law_rows" 1245), (sv "/claim/cut.py" 1246), (.int (403) 0), (.int (1) 0), (.int (0) 0), (.int (0) 0), (.int (3) 0), (.ref 695), (.bool true), (.int (370) 0), (.ref 696), .none, .none, .none, (.ref 697), (.int (1247) 0), (.int (403) 0), (sv "/claim/cut.py" 1248)]⟩), ⟨[]⟩⟩
def o699_4 (P : Params) : Obj := ⟨(.type "function"), none, (.func ⟨(ns "_law_rows"), (ns "_law_rows"), defArgs (top 60), .stmts (defBody (top 60)), defScope (top 60), 3, [], .none, .none, .none, (sv "law_watchedways_k33_turned_and_beside" 1128), none, (.ref 698), .none, 0⟩), ⟨[]⟩⟩
def o700_4 (P : Params) : Obj := ⟨(.type "tuple"), none, (.seq ⟨[]⟩ 0), ⟨[]⟩⟩
def o701_4 (P : Params) : Obj := ⟨.none, none, (.fields ⟨[]⟩), ⟨[]⟩⟩
def o702_4 (P : Params) : Obj := ⟨(.type "tuple"), none, (.seq ⟨[(sv "reckoning" 1253), (sv "told" 1254)]⟩ 0), ⟨[]⟩⟩
def o703_4 (P : Params) : Obj := ⟨(.type "tuple"), none, (.seq ⟨[]⟩ 0), ⟨[]⟩⟩
def o704_4 (P : Params) : Obj := ⟨.none, none, (.func ⟨(ns "_law_is_told"), (ns "_law_is_told"), defArgs (top 61), .stmts (defBody (top 61)), defScope (top 61), 0, [], .none, .none, .none, .none, none, .none, .none, 0⟩), ⟨[]⟩⟩
def o705_4 (P : Params) : Obj := ⟨(.type "code"), none, (.fields ⟨[(sv "_law_is_told" 1250), (sv "_law_is_told" 1251), (sv "/claim/cut.py" 1252), (.int (405) 0), (.int (2) 0), (.int (0) 0), (.int (0) 0), (.int (3) 0), (.ref 700), (.bool true), (.int (370) 0), (.ref 701), .none, (.ref 702), (.ref 703), (.ref 704), (.int (1255) 0), (.int (405) 0), (sv "/claim/cut.py" 1256)]⟩), ⟨[]⟩⟩
def o706_4 (P : Params) : Obj := ⟨(.type "function"), none, (.func ⟨(ns "_law_is_told"), (ns "_law_is_told"), defArgs (top 61), .stmts (defBody (top 61)), defScope (top 61), 3, [], .none, .none, .none, (sv "law_watchedways_k33_turned_and_beside" 1128), none, (.ref 705), .none, 0⟩), ⟨[]⟩⟩
def o707_4 (P : Params) : Obj := ⟨(.type "tuple"), none, (.seq ⟨[]⟩ 0), ⟨[]⟩⟩
def o708_4 (P : Params) : Obj := ⟨.none, none, (.fields ⟨[]⟩), ⟨[]⟩⟩
def o709_4 (P : Params) : Obj := ⟨(.type "tuple"), none, (.seq ⟨[(sv "hand" 1261), (sv "kind" 1262), (sv "products" 1263), (sv "one" 1264), (sv "told" 1265)]⟩ 0), ⟨[]⟩⟩
def o710_4 (P : Params) : Obj := ⟨(.type "tuple"), none, (.seq ⟨[]⟩ 0), ⟨[]⟩⟩
def o711_4 (P : Params) : Obj := ⟨.none, none, (.func ⟨(ns "_law_small"), (ns "_law_small"), defArgs (top 62), .stmts (defBody (top 62)), defScope (top 62), 0, [], .none, .none, .none, .none, none, .none, .none, 0⟩), ⟨[]⟩⟩
def o712_4 (P : Params) : Obj := ⟨(.type "code"), none, (.fields ⟨[(sv "_law_small" 1258), (sv "_law_small" 1259), (sv "/claim/cut.py" 1260), (.int (411) 0), (.int (1) 0), (.int (0) 0), (.int (0) 0), (.int (3) 0), (.ref 707), (.bool true), (.int (370) 0), (.ref 708), .none, (.ref 709), (.ref 710), (.ref 711), (.int (1266) 0), (.int (411) 0), (sv "/claim/cut.py" 1267)]⟩), ⟨[]⟩⟩
def o713_4 (P : Params) : Obj := ⟨(.type "function"), none, (.func ⟨(ns "_law_small"), (ns "_law_small"), defArgs (top 62), .stmts (defBody (top 62)), defScope (top 62), 3, [], .none, .none, .none, (sv "law_watchedways_k33_turned_and_beside" 1128), none, (.ref 712), .none, 0⟩), ⟨[]⟩⟩
def o714_4 (P : Params) : Obj := ⟨(.type "tuple"), none, (.seq ⟨[]⟩ 0), ⟨[]⟩⟩
def o715_4 (P : Params) : Obj := ⟨.none, none, (.fields ⟨[]⟩), ⟨[]⟩⟩
def o716_4 (P : Params) : Obj := ⟨(.type "tuple"), none, (.seq ⟨[(sv "kind" 1272), (sv "one" 1273), (sv "other" 1274), (sv "told" 1275), (sv "e" 1276)]⟩ 0), ⟨[]⟩⟩
def o717_4 (P : Params) : Obj := ⟨(.type "tuple"), none, (.seq ⟨[]⟩ 0), ⟨[]⟩⟩
def o718_4 (P : Params) : Obj := ⟨.none, none, (.func ⟨(ns "_law_asked"), (ns "_law_asked"), defArgs (top 63), .stmts (defBody (top 63)), defScope (top 63), 0, [], .none, .none, .none, .none, none, .none, .none, 0⟩), ⟨[]⟩⟩
def o719_4 (P : Params) : Obj := ⟨(.type "code"), none, (.fields ⟨[(sv "_law_asked" 1269), (sv "_law_asked" 1270), (sv "/claim/cut.py" 1271), (.int (422) 0), (.int (3) 0), (.int (0) 0), (.int (0) 0), (.int (3) 0), (.ref 714), (.bool true), (.int (370) 0), (.ref 715), .none, (.ref 716), (.ref 717), (.ref 718), (.int (1277) 0), (.int (422) 0), (sv "/claim/cut.py" 1278)]⟩), ⟨[]⟩⟩
def o720_4 (P : Params) : Obj := ⟨(.type "function"), none, (.func ⟨(ns "_law_asked"), (ns "_law_asked"), defArgs (top 63), .stmts (defBody (top 63)), defScope (top 63), 3, [], .none, .none, .none, (sv "law_watchedways_k33_turned_and_beside" 1128), none, (.ref 719), .none, 0⟩), ⟨[]⟩⟩
def o721_4 (P : Params) : Obj := ⟨(.type "tuple"), none, (.seq ⟨[]⟩ 0), ⟨[]⟩⟩
def o722_4 (P : Params) : Obj := ⟨.none, none, (.fields ⟨[]⟩), ⟨[]⟩⟩
def o723_4 (P : Params) : Obj := ⟨(.type "tuple"), none, (.seq ⟨[(sv "told" 1283)]⟩ 0), ⟨[]⟩⟩
def o724_4 (P : Params) : Obj := ⟨(.type "tuple"), none, (.seq ⟨[]⟩ 0), ⟨[]⟩⟩
def o725_4 (P : Params) : Obj := ⟨.none, none, (.func ⟨(ns "_law_kept"), (ns "_law_kept"), defArgs (top 64), .stmts (defBody (top 64)), defScope (top 64), 0, [], .none, .none, .none, .none, none, .none, .none, 0⟩), ⟨[]⟩⟩
def o726_4 (P : Params) : Obj := ⟨(.type "code"), none, (.fields ⟨[(sv "_law_kept" 1280), (sv "_law_kept" 1281), (sv "/claim/cut.py" 1282), (.int (434) 0), (.int (1) 0), (.int (0) 0), (.int (0) 0), (.int (3) 0), (.ref 721), (.bool true), (.int (370) 0), (.ref 722), .none, (.ref 723), (.ref 724), (.ref 725), (.int (1284) 0), (.int (434) 0), (sv "/claim/cut.py" 1285)]⟩), ⟨[]⟩⟩
def o727_4 (P : Params) : Obj := ⟨(.type "function"), none, (.func ⟨(ns "_law_kept"), (ns "_law_kept"), defArgs (top 64), .stmts (defBody (top 64)), defScope (top 64), 3, [], .none, .none, .none, (sv "law_watchedways_k33_turned_and_beside" 1128), none, (.ref 726), .none, 0⟩), ⟨[]⟩⟩
def o728_4 (P : Params) : Obj := ⟨(.type "tuple"), none, (.seq ⟨[]⟩ 0), ⟨[]⟩⟩
def o729_4 (P : Params) : Obj := ⟨.none, none, (.fields ⟨[]⟩), ⟨[]⟩⟩
def o730_4 (P : Params) : Obj := ⟨(.type "tuple"), none, (.seq ⟨[(sv "script" 1290), (sv "hand" 1291), (sv "first" 1292), (sv "second" 1293), (sv "one" 1294), (sv "other" 1295), (sv "reckoning" 1296), (sv "told" 1297), (sv "far" 1298), (sv "odd" 1299), (sv "kind" 1300), (sv "a" 1301), (sv "b" 1302)]⟩ 0), ⟨[]⟩⟩
def o731_4 (P : Params) : Obj := ⟨(.type "tuple"), none, (.seq ⟨[]⟩ 0), ⟨[]⟩⟩
def o732_4 (P : Params) : Obj := ⟨.none, none, (.func ⟨(ns "law"), (ns "law"), defArgs (top 65), .stmts (defBody (top 65)), defScope (top 65), 0, [], .none, .none, .none, .none, none, .none, .none, 0⟩), ⟨[]⟩⟩
def o733_4 (P : Params) : Obj := ⟨(.type "code"), none, (.fields ⟨[(sv "law" 1287), (sv "law" 1288), (sv "/claim/cut.py" 1289), (.int (436) 0), (.int (1) 0), (.int (0) 0), (.int (0) 0), (.int (3) 0), (.ref 728), (.bool true), (.int (370) 0), (.ref 729), .none, (.ref 730), (.ref 731), (.ref 732), (.int (1303) 0), (.int (436) 0), (sv "/claim/cut.py" 1304)]⟩), ⟨[]⟩⟩
def o734_4 (P : Params) : Obj := ⟨(.type "function"), none, (.func ⟨(ns "law"), (ns "law"), defArgs (top 65), .stmts (defBody (top 65)), defScope (top 65), 3, [], .none, .none, .none, (sv "law_watchedways_k33_turned_and_beside" 1128), none, (.ref 733), .none, 0⟩), ⟨[]⟩⟩
def T4 (P : Params) : BT := (.node (o0_0 P) (.node (o1_0 P) (.node (o3_4 P) (.node (o7_0 P) (.node (o15_0 P) (.node (o31_0 P) (.node (o63_3 P) (.node (o127_3 P) (.node (o255_3 P) (.node (o511_4 P) .nil .nil) .nil) (.node (o383_4 P) (.node (o639_4 P) .nil .nil) .nil)) (.node (o191_3 P) (.node (o319_3 P) (.node (o575_4 P) .nil .nil) .nil) (.node (o447_4 P) (.node (o703_4 P) .nil .nil) .nil))) (.node (o95_3 P) (.node (o159_3 P) (.node (o287_3 P) (.node (o543_4 P) .nil .nil) .nil) (.node (o415_4 P) (.node (o671_4 P) .nil .nil) .nil)) (.node (o223_3 P) (.node (o351_3 P) (.node (o607_4 P) .nil .nil) .nil) (.node (o479_4 P) .nil .nil)))) (.node (o47_3 P) (.node (o79_3 P) (.node (o143_3 P) (.node (o271_3 P) (.node (o527_4 P) .nil .nil) .nil) (.node (o399_4 P) (.node (o655_4 P) .nil .nil) .nil)) (.node (o207_3 P) (.node (o335_3 P) (.node (o591_4 P) .nil .nil) .nil) (.node (o463_4 P) (.node (o719_4 P) .nil .nil) .nil))) (.node (o111_3 P) (.node (o175_3 P) (.node (o303_3 P) (.node (o559_4 P) .nil .nil) .nil) (.node (o431_4 P) (.node (o687_4 P) .nil .nil) .nil)) (.node (o239_3 P) (.node (o367_4 P) (.node (o623_4 P) .nil .nil) .nil) (.node (o495_4 P) .nil .nil))))) (.node (o23_0 P) (.node (o39_1 P) (.node (o71_3 P) (.node (o135_3 P) (.node (o263_3 P) (.node (o519_4 P) .nil .nil) .nil) (.node (o391_4 P) (.node (o647_4 P) .nil .nil) .nil)) (.node (o199_3 P) (.node (o327_3 P) (.node (o583_4 P) .nil .nil) .nil) (.node (o455_4 P) (.node (o711_4 P) .nil .nil) .nil))) (.node (o103_3 P) (.node (o167_3 P) (.node (o295_3 P) (.node (o551_4 P) .nil .nil) .nil) (.node (o423_4 P) (.node (o679_4 P) .nil .nil) .nil)) (.node (o231_3 P) (.node (o359_4 P) (.node (o615_4 P) .nil .nil) .nil) (.node (o487_4 P) .nil .nil)))) (.node (o55_3 P) (.node (o87_3 P) (.node (o151_3 P) (.node (o279_3 P) (.node (o535_4 P) .nil .nil) .nil) (.node (o407_4 P) (.node (o663_4 P) .nil .nil) .nil)) (.node (o215_3 P) (.node (o343_3 P) (.node (o599_4 P) .nil .nil) .nil) (.node (o471_4 P) (.node (o727_4 P) .nil .nil) .nil))) (.node (o119_3 P) (.node (o183_3 P) (.node (o311_3 P) (.node (o567_4 P) .nil .nil) .nil) (.node (o439_4 P) (.node (o695_4 P) .nil .nil) .nil)) (.node (o247_3 P) (.node (o375_4 P) (.node (o631_4 P) .nil .nil) .nil) (.node (o503_4 P) .nil .nil)))))) (.node (o11_0 P) (.node (o19_0 P) (.node (o35_0 P) (.node (o67_3 P) (.node (o131_3 P) (.node (o259_3 P) (.node (o515_4 P) .nil .nil) .nil) (.node (o387_4 P) (.node (o643_4 P) .nil .nil) .nil)) (.node (o195_3 P) (.node (o323_3 P) (.node (o579_4 P) .nil .nil) .nil) (.node (o451_4 P) (.node (o707_4 P) .nil .nil) .nil))) (.node (o99_3 P) (.node (o163_3 P) (.node (o291_3 P) (.node (o547_4 P) .nil .nil) .nil) (.node (o419_4 P) (.node (o675_4 P) .nil .nil) .nil)) (.node (o227_3 P) (.node (o355_3 P) (.node (o611_4 P) .nil .nil) .nil) (.node (o483_4 P) .nil .nil)))) (.node (o51_3 P) (.node (o83_3 P) (.node (o147_3 P) (.node (o275_3 P) (.node (o531_4 P) .nil .nil) .nil) (.node (o403_4 P) (.node (o659_4 P) .nil .nil) .nil)) (.node (o211_3 P) (.node (o339_3 P) (.node (o595_4 P) .nil .nil) .nil) (.node (o467_4 P) (.node (o723_4 P) .nil .nil) .nil))) (.node (o115_3 P) (.node (o179_3 P) (.node (o307_3 P) (.node (o563_4 P) .nil .nil) .nil) (.node (o435_4 P) (.node (o691_4 P) .nil .nil) .nil)) (.node (o243_3 P) (.node (o371_4 P) (.node (o627_4 P) .nil .nil) .nil) (.node (o499_4 P) .nil .nil))))) (.node (o27_0 P) (.node (o43_3 P) (.node (o75_3 P) (.node (o139_3 P) (.node (o267_3 P) (.node (o523_4 P) .nil .nil) .nil) (.node (o395_4 P) (.node (o651_4 P) .nil .nil) .nil)) (.node (o203_3 P) (.node (o331_3 P) (.node (o587_4 P) .nil .nil) .nil) (.node (o459_4 P) (.node (o715_4 P) .nil .nil) .nil))) (.node (o107_3 P) (.node (o171_3 P) (.node (o299_3 P) (.node (o555_4 P) .nil .nil) .nil) (.node (o427_4 P) (.node (o683_4 P) .nil .nil) .nil)) (.node (o235_3 P) (.node (o363_4 P) (.node (o619_4 P) .nil .nil) .nil) (.node (o491_4 P) .nil .nil)))) (.node (o59_3 P) (.node (o91_3 P) (.node (o155_3 P) (.node (o283_3 P) (.node (o539_4 P) .nil .nil) .nil) (.node (o411_4 P) (.node (o667_4 P) .nil .nil) .nil)) (.node (o219_3 P) (.node (o347_3 P) (.node (o603_4 P) .nil .nil) .nil) (.node (o475_4 P) (.node (o731_4 P) .nil .nil) .nil))) (.node (o123_3 P) (.node (o187_3 P) (.node (o315_3 P) (.node (o571_4 P) .nil .nil) .nil) (.node (o443_4 P) (.node (o699_4 P) .nil .nil) .nil)) (.node (o251_3 P) (.node (o379_4 P) (.node (o635_4 P) .nil .nil) .nil) (.node (o507_4 P) .nil .nil))))))) (.node (o5_0 P) (.node (o9_0 P) (.node (o17_0 P) (.node (o33_0 P) (.node (o65_3 P) (.node (o129_3 P) (.node (o257_3 P) (.node (o513_4 P) .nil .nil) .nil) (.node (o385_4 P) (.node (o641_4 P) .nil .nil) .nil)) (.node (o193_3 P) (.node (o321_3 P) (.node (o577_4 P) .nil .nil) .nil) (.node (o449_4 P) (.node (o705_4 P) .nil .nil) .nil))) (.node (o97_3 P) (.node (o161_3 P) (.node (o289_3 P) (.node (o545_4 P) .nil .nil) .nil) (.node (o417_4 P) (.node (o673_4 P) .nil .nil) .nil)) (.node (o225_3 P) (.node (o353_3 P) (.node (o609_4 P) .nil .nil) .nil) (.node (o481_4 P) .nil .nil)))) (.node (o49_3 P) (.node (o81_3 P) (.node (o145_3 P) (.node (o273_3 P) (.node (o529_4 P) .nil .nil) .nil) (.node (o401_4 P) (.node (o657_4 P) .nil .nil) .nil)) (.node (o209_3 P) (.node (o337_3 P) (.node (o593_4 P) .nil .nil) .nil) (.node (o465_4 P) (.node (o721_4 P) .nil .nil) .nil))) (.node (o113_3 P) (.node (o177_3 P) (.node (o305_3 P) (.node (o561_4 P) .nil .nil) .nil) (.node (o433_4 P) (.node (o689_4 P) .nil .nil) .nil)) (.node (o241_3 P) (.node (o369_4 P) (.node (o625_4 P) .nil .nil) .nil) (.node (o497_4 P) .nil .nil))))) (.node (o25_0 P) (.node (o41_1 P) (.node (o73_3 P) (.node (o137_3 P) (.node (o265_3 P) (.node (o521_4 P) .nil .nil) .nil) (.node (o393_4 P) (.node (o649_4 P) .nil .nil) .nil)) (.node (o201_3 P) (.node (o329_3 P) (.node (o585_4 P) .nil .nil) .nil) (.node (o457_4 P) (.node (o713_4 P) .nil .nil) .nil))) (.node (o105_3 P) (.node (o169_3 P) (.node (o297_3 P) (.node (o553_4 P) .nil .nil) .nil) (.node (o425_4 P) (.node (o681_4 P) .nil .nil) .nil)) (.node (o233_3 P) (.node (o361_4 P) (.node (o617_4 P) .nil .nil) .nil) (.node (o489_4 P) .nil .nil)))) (.node (o57_3 P) (.node (o89_3 P) (.node (o153_3 P) (.node (o281_3 P) (.node (o537_4 P) .nil .nil) .nil) (.node (o409_4 P) (.node (o665_4 P) .nil .nil) .nil)) (.node (o217_3 P) (.node (o345_3 P) (.node (o601_4 P) .nil .nil) .nil) (.node (o473_4 P) (.node (o729_4 P) .nil .nil) .nil))) (.node (o121_3 P) (.node (o185_3 P) (.node (o313_3 P) (.node (o569_4 P) .nil .nil) .nil) (.node (o441_4 P) (.node (o697_4 P) .nil .nil) .nil)) (.node (o249_3 P) (.node (o377_4 P) (.node (o633_4 P) .nil .nil) .nil) (.node (o505_4 P) .nil .nil)))))) (.node (o13_0 P) (.node (o21_0 P) (.node (o37_0 P) (.node (o69_3 P) (.node (o133_3 P) (.node (o261_3 P) (.node (o517_4 P) .nil .nil) .nil) (.node (o389_4 P) (.node (o645_4 P) .nil .nil) .nil)) (.node (o197_3 P) (.node (o325_3 P) (.node (o581_4 P) .nil .nil) .nil) (.node (o453_4 P) (.node (o709_4 P) .nil .nil) .nil))) (.node (o101_3 P) (.node (o165_3 P) (.node (o293_3 P) (.node (o549_4 P) .nil .nil) .nil) (.node (o421_4 P) (.node (o677_4 P) .nil .nil) .nil)) (.node (o229_3 P) (.node (o357_4 P) (.node (o613_4 P) .nil .nil) .nil) (.node (o485_4 P) .nil .nil)))) (.node (o53_3 P) (.node (o85_3 P) (.node (o149_3 P) (.node (o277_3 P) (.node (o533_4 P) .nil .nil) .nil) (.node (o405_4 P) (.node (o661_4 P) .nil .nil) .nil)) (.node (o213_3 P) (.node (o341_3 P) (.node (o597_4 P) .nil .nil) .nil) (.node (o469_4 P) (.node (o725_4 P) .nil .nil) .nil))) (.node (o117_3 P) (.node (o181_3 P) (.node (o309_3 P) (.node (o565_4 P) .nil .nil) .nil) (.node (o437_4 P) (.node (o693_4 P) .nil .nil) .nil)) (.node (o245_3 P) (.node (o373_4 P) (.node (o629_4 P) .nil .nil) .nil) (.node (o501_4 P) .nil .nil))))) (.node (o29_0 P) (.node (o45_3 P) (.node (o77_3 P) (.node (o141_3 P) (.node (o269_3 P) (.node (o525_4 P) .nil .nil) .nil) (.node (o397_4 P) (.node (o653_4 P) .nil .nil) .nil)) (.node (o205_3 P) (.node (o333_3 P) (.node (o589_4 P) .nil .nil) .nil) (.node (o461_4 P) (.node (o717_4 P) .nil .nil) .nil))) (.node (o109_3 P) (.node (o173_3 P) (.node (o301_3 P) (.node (o557_4 P) .nil .nil) .nil) (.node (o429_4 P) (.node (o685_4 P) .nil .nil) .nil)) (.node (o237_3 P) (.node (o365_4 P) (.node (o621_4 P) .nil .nil) .nil) (.node (o493_4 P) .nil .nil)))) (.node (o61_3 P) (.node (o93_3 P) (.node (o157_3 P) (.node (o285_3 P) (.node (o541_4 P) .nil .nil) .nil) (.node (o413_4 P) (.node (o669_4 P) .nil .nil) .nil)) (.node (o221_3 P) (.node (o349_3 P) (.node (o605_4 P) .nil .nil) .nil) (.node (o477_4 P) (.node (o733_4 P) .nil .nil) .nil))) (.node (o125_3 P) (.node (o189_3 P) (.node (o317_3 P) (.node (o573_4 P) .nil .nil) .nil) (.node (o445_4 P) (.node (o701_4 P) .nil .nil) .nil)) (.node (o253_3 P) (.node (o381_4 P) (.node (o637_4 P) .nil .nil) .nil) (.node (o509_4 P) .nil .nil)))))))) (.node (o2_0 P) (.node (o4_0 P) (.node (o8_0 P) (.node (o16_0 P) (.node (o32_0 P) (.node (o64_3 P) (.node (o128_3 P) (.node (o256_3 P) (.node (o512_4 P) .nil .nil) .nil) (.node (o384_4 P) (.node (o640_4 P) .nil .nil) .nil)) (.node (o192_3 P) (.node (o320_3 P) (.node (o576_4 P) .nil .nil) .nil) (.node (o448_4 P) (.node (o704_4 P) .nil .nil) .nil))) (.node (o96_3 P) (.node (o160_3 P) (.node (o288_3 P) (.node (o544_4 P) .nil .nil) .nil) (.node (o416_4 P) (.node (o672_4 P) .nil .nil) .nil)) (.node (o224_3 P) (.node (o352_3 P) (.node (o608_4 P) .nil .nil) .nil) (.node (o480_4 P) .nil .nil)))) (.node (o48_3 P) (.node (o80_3 P) (.node (o144_3 P) (.node (o272_3 P) (.node (o528_4 P) .nil .nil) .nil) (.node (o400_4 P) (.node (o656_4 P) .nil .nil) .nil)) (.node (o208_3 P) (.node (o336_3 P) (.node (o592_4 P) .nil .nil) .nil) (.node (o464_4 P) (.node (o720_4 P) .nil .nil) .nil))) (.node (o112_3 P) (.node (o176_3 P) (.node (o304_3 P) (.node (o560_4 P) .nil .nil) .nil) (.node (o432_4 P) (.node (o688_4 P) .nil .nil) .nil)) (.node (o240_3 P) (.node (o368_4 P) (.node (o624_4 P) .nil .nil) .nil) (.node (o496_4 P) .nil .nil))))) (.node (o24_0 P) (.node (o40_4 P) (.node (o72_3 P) (.node (o136_3 P) (.node (o264_3 P) (.node (o520_4 P) .nil .nil) .nil) (.node (o392_4 P) (.node (o648_4 P) .nil .nil) .nil)) (.node (o200_3 P) (.node (o328_3 P) (.node (o584_4 P) .nil .nil) .nil) (.node (o456_4 P) (.node (o712_4 P) .nil .nil) .nil))) (.node (o104_3 P) (.node (o168_3 P) (.node (o296_3 P) (.node (o552_4 P) .nil .nil) .nil) (.node (o424_4 P) (.node (o680_4 P) .nil .nil) .nil)) (.node (o232_3 P) (.node (o360_4 P) (.node (o616_4 P) .nil .nil) .nil) (.node (o488_4 P) .nil .nil)))) (.node (o56_3 P) (.node (o88_3 P) (.node (o152_3 P) (.node (o280_3 P) (.node (o536_4 P) .nil .nil) .nil) (.node (o408_4 P) (.node (o664_4 P) .nil .nil) .nil)) (.node (o216_3 P) (.node (o344_3 P) (.node (o600_4 P) .nil .nil) .nil) (.node (o472_4 P) (.node (o728_4 P) .nil .nil) .nil))) (.node (o120_3 P) (.node (o184_3 P) (.node (o312_3 P) (.node (o568_4 P) .nil .nil) .nil) (.node (o440_4 P) (.node (o696_4 P) .nil .nil) .nil)) (.node (o248_3 P) (.node (o376_4 P) (.node (o632_4 P) .nil .nil) .nil) (.node (o504_4 P) .nil .nil)))))) (.node (o12_0 P) (.node (o20_0 P) (.node (o36_0 P) (.node (o68_3 P) (.node (o132_3 P) (.node (o260_3 P) (.node (o516_4 P) .nil .nil) .nil) (.node (o388_4 P) (.node (o644_4 P) .nil .nil) .nil)) (.node (o196_3 P) (.node (o324_3 P) (.node (o580_4 P) .nil .nil) .nil) (.node (o452_4 P) (.node (o708_4 P) .nil .nil) .nil))) (.node (o100_3 P) (.node (o164_3 P) (.node (o292_3 P) (.node (o548_4 P) .nil .nil) .nil) (.node (o420_4 P) (.node (o676_4 P) .nil .nil) .nil)) (.node (o228_3 P) (.node (o356_4 P) (.node (o612_4 P) .nil .nil) .nil) (.node (o484_4 P) .nil .nil)))) (.node (o52_3 P) (.node (o84_3 P) (.node (o148_3 P) (.node (o276_3 P) (.node (o532_4 P) .nil .nil) .nil) (.node (o404_4 P) (.node (o660_4 P) .nil .nil) .nil)) (.node (o212_3 P) (.node (o340_3 P) (.node (o596_4 P) .nil .nil) .nil) (.node (o468_4 P) (.node (o724_4 P) .nil .nil) .nil))) (.node (o116_3 P) (.node (o180_3 P) (.node (o308_3 P) (.node (o564_4 P) .nil .nil) .nil) (.node (o436_4 P) (.node (o692_4 P) .nil .nil) .nil)) (.node (o244_3 P) (.node (o372_4 P) (.node (o628_4 P) .nil .nil) .nil) (.node (o500_4 P) .nil .nil))))) (.node (o28_0 P) (.node (o44_3 P) (.node (o76_3 P) (.node (o140_3 P) (.node (o268_3 P) (.node (o524_4 P) .nil .nil) .nil) (.node (o396_4 P) (.node (o652_4 P) .nil .nil) .nil)) (.node (o204_3 P) (.node (o332_3 P) (.node (o588_4 P) .nil .nil) .nil) (.node (o460_4 P) (.node (o716_4 P) .nil .nil) .nil))) (.node (o108_3 P) (.node (o172_3 P) (.node (o300_3 P) (.node (o556_4 P) .nil .nil) .nil) (.node (o428_4 P) (.node (o684_4 P) .nil .nil) .nil)) (.node (o236_3 P) (.node (o364_4 P) (.node (o620_4 P) .nil .nil) .nil) (.node (o492_4 P) .nil .nil)))) (.node (o60_3 P) (.node (o92_3 P) (.node (o156_3 P) (.node (o284_3 P) (.node (o540_4 P) .nil .nil) .nil) (.node (o412_4 P) (.node (o668_4 P) .nil .nil) .nil)) (.node (o220_3 P) (.node (o348_3 P) (.node (o604_4 P) .nil .nil) .nil) (.node (o476_4 P) (.node (o732_4 P) .nil .nil) .nil))) (.node (o124_3 P) (.node (o188_3 P) (.node (o316_3 P) (.node (o572_4 P) .nil .nil) .nil) (.node (o444_4 P) (.node (o700_4 P) .nil .nil) .nil)) (.node (o252_3 P) (.node (o380_4 P) (.node (o636_4 P) .nil .nil) .nil) (.node (o508_4 P) .nil .nil))))))) (.node (o6_0 P) (.node (o10_0 P) (.node (o18_0 P) (.node (o34_0 P) (.node (o66_3 P) (.node (o130_3 P) (.node (o258_3 P) (.node (o514_4 P) .nil .nil) .nil) (.node (o386_4 P) (.node (o642_4 P) .nil .nil) .nil)) (.node (o194_3 P) (.node (o322_3 P) (.node (o578_4 P) .nil .nil) .nil) (.node (o450_4 P) (.node (o706_4 P) .nil .nil) .nil))) (.node (o98_3 P) (.node (o162_3 P) (.node (o290_3 P) (.node (o546_4 P) .nil .nil) .nil) (.node (o418_4 P) (.node (o674_4 P) .nil .nil) .nil)) (.node (o226_3 P) (.node (o354_3 P) (.node (o610_4 P) .nil .nil) .nil) (.node (o482_4 P) .nil .nil)))) (.node (o50_3 P) (.node (o82_3 P) (.node (o146_3 P) (.node (o274_3 P) (.node (o530_4 P) .nil .nil) .nil) (.node (o402_4 P) (.node (o658_4 P) .nil .nil) .nil)) (.node (o210_3 P) (.node (o338_3 P) (.node (o594_4 P) .nil .nil) .nil) (.node (o466_4 P) (.node (o722_4 P) .nil .nil) .nil))) (.node (o114_3 P) (.node (o178_3 P) (.node (o306_3 P) (.node (o562_4 P) .nil .nil) .nil) (.node (o434_4 P) (.node (o690_4 P) .nil .nil) .nil)) (.node (o242_3 P) (.node (o370_4 P) (.node (o626_4 P) .nil .nil) .nil) (.node (o498_4 P) .nil .nil))))) (.node (o26_0 P) (.node (o42_1 P) (.node (o74_3 P) (.node (o138_3 P) (.node (o266_3 P) (.node (o522_4 P) .nil .nil) .nil) (.node (o394_4 P) (.node (o650_4 P) .nil .nil) .nil)) (.node (o202_3 P) (.node (o330_3 P) (.node (o586_4 P) .nil .nil) .nil) (.node (o458_4 P) (.node (o714_4 P) .nil .nil) .nil))) (.node (o106_3 P) (.node (o170_3 P) (.node (o298_3 P) (.node (o554_4 P) .nil .nil) .nil) (.node (o426_4 P) (.node (o682_4 P) .nil .nil) .nil)) (.node (o234_3 P) (.node (o362_4 P) (.node (o618_4 P) .nil .nil) .nil) (.node (o490_4 P) .nil .nil)))) (.node (o58_3 P) (.node (o90_3 P) (.node (o154_3 P) (.node (o282_3 P) (.node (o538_4 P) .nil .nil) .nil) (.node (o410_4 P) (.node (o666_4 P) .nil .nil) .nil)) (.node (o218_3 P) (.node (o346_3 P) (.node (o602_4 P) .nil .nil) .nil) (.node (o474_4 P) (.node (o730_4 P) .nil .nil) .nil))) (.node (o122_3 P) (.node (o186_3 P) (.node (o314_3 P) (.node (o570_4 P) .nil .nil) .nil) (.node (o442_4 P) (.node (o698_4 P) .nil .nil) .nil)) (.node (o250_3 P) (.node (o378_4 P) (.node (o634_4 P) .nil .nil) .nil) (.node (o506_4 P) .nil .nil)))))) (.node (o14_0 P) (.node (o22_0 P) (.node (o38_0 P) (.node (o70_3 P) (.node (o134_3 P) (.node (o262_3 P) (.node (o518_4 P) .nil .nil) .nil) (.node (o390_4 P) (.node (o646_4 P) .nil .nil) .nil)) (.node (o198_3 P) (.node (o326_3 P) (.node (o582_4 P) .nil .nil) .nil) (.node (o454_4 P) (.node (o710_4 P) .nil .nil) .nil))) (.node (o102_3 P) (.node (o166_3 P) (.node (o294_3 P) (.node (o550_4 P) .nil .nil) .nil) (.node (o422_4 P) (.node (o678_4 P) .nil .nil) .nil)) (.node (o230_3 P) (.node (o358_4 P) (.node (o614_4 P) .nil .nil) .nil) (.node (o486_4 P) .nil .nil)))) (.node (o54_3 P) (.node (o86_3 P) (.node (o150_3 P) (.node (o278_3 P) (.node (o534_4 P) .nil .nil) .nil) (.node (o406_4 P) (.node (o662_4 P) .nil .nil) .nil)) (.node (o214_3 P) (.node (o342_3 P) (.node (o598_4 P) .nil .nil) .nil) (.node (o470_4 P) (.node (o726_4 P) .nil .nil) .nil))) (.node (o118_3 P) (.node (o182_3 P) (.node (o310_3 P) (.node (o566_4 P) .nil .nil) .nil) (.node (o438_4 P) (.node (o694_4 P) .nil .nil) .nil)) (.node (o246_3 P) (.node (o374_4 P) (.node (o630_4 P) .nil .nil) .nil) (.node (o502_4 P) .nil .nil))))) (.node (o30_0 P) (.node (o46_3 P) (.node (o78_3 P) (.node (o142_3 P) (.node (o270_3 P) (.node (o526_4 P) .nil .nil) .nil) (.node (o398_4 P) (.node (o654_4 P) .nil .nil) .nil)) (.node (o206_3 P) (.node (o334_3 P) (.node (o590_4 P) .nil .nil) .nil) (.node (o462_4 P) (.node (o718_4 P) .nil .nil) .nil))) (.node (o110_3 P) (.node (o174_3 P) (.node (o302_3 P) (.node (o558_4 P) .nil .nil) .nil) (.node (o430_4 P) (.node (o686_4 P) .nil .nil) .nil)) (.node (o238_3 P) (.node (o366_4 P) (.node (o622_4 P) .nil .nil) .nil) (.node (o494_4 P) .nil .nil)))) (.node (o62_3 P) (.node (o94_3 P) (.node (o158_3 P) (.node (o286_3 P) (.node (o542_4 P) .nil .nil) .nil) (.node (o414_4 P) (.node (o670_4 P) .nil .nil) .nil)) (.node (o222_3 P) (.node (o350_3 P) (.node (o606_4 P) .nil .nil) .nil) (.node (o478_4 P) (.node (o734_4 P) .nil .nil) .nil))) (.node (o126_3 P) (.node (o190_3 P) (.node (o318_3 P) (.node (o574_4 P) .nil .nil) .nil) (.node (o446_4 P) (.node (o702_4 P) .nil .nil) .nil)) (.node (o254_3 P) (.node (o382_4 P) (.node (o638_4 P) .nil .nil) .nil) (.node (o510_4 P) .nil .nil)))))))))
def X4 (w : World) (os : OsState) : SharedT := ⟨T4 w.params, 735, lf, ⟨[]⟩, ⟨0, 0, 0, 0⟩, 1306, os⟩

def env : Env := { scope := pp.main.scope, locals := mainNs, globals := mainNs, cells := [], code := (.ref 41), frame := some 42 }
def ann : Option Value := (some (.ref 6))
def cB : Code := .body (behindTheImports pp) env
def q0 : Pos := ⟨0, 0, 0, 0⟩
abbrev Rw : PySem.W.OpenRow := PySem.W.OpenLaw.row PySem.Challenge.rw_watchedways_k33_turned_and_beside
def sg0 : List Stmt := [top 1, top 2, top 3, top 4, top 5, top 6, top 7, top 8, top 9, top 10, top 11, top 12, top 13, top 14, top 15, top 16, top 17, top 18, top 19, top 20, top 21, top 22, top 23, top 24, top 25, top 26, top 27, top 28, top 29, top 30, top 31, top 32, top 33, top 34, top 35]
def sg1 : List Stmt := [top 36, top 37, top 38, top 39, top 40, top 41, top 42, top 43, top 44, top 45, top 46, top 47, top 48, top 49, top 50, top 51, top 52, top 53, top 54, top 55, top 56, top 57, top 58, top 59, top 60, top 61, top 62, top 63, top 64, top 65]
set_option maxHeartbeats 0
theorem hb : behindTheImports pp = sg0 ++ (sg1 ++ ([])) := by kernel_rfl
theorem pre (w : World) (os : OsState) : goT (stQ pp w) (okQ 39 ann) 12 (X0 w os) (topStub pp) = some (X1 w os, ⟨denQ tabQ cB, cB, ⟨0, 0, 0, 0⟩, [topFrame q0]⟩) := by kernel_rfl
theorem blk (w : World) (os : OsState) : goE (stQ pp w) (okQ 39 ann) 1 (X1 w os) ⟨(blockQ (behindTheImports pp) env).wrap (fun _ => doneF .next) deadEnd id id, cB, ⟨0, 0, 0, 0⟩, [topFrame q0]⟩ = some (.next, X2 w os, cB, ⟨0, 0, 0, 0⟩) := by kernel_rfl
theorem seg0 (w : World) (os : OsState) : goE (stQ pp w) (okQ 39 ann) 2427 (X2 w os) ⟨(execsQ sg0 env).wrap doneF deadEnd id id, cB, ⟨0, 0, 0, 0⟩, [topFrame q0]⟩ = some (.next, X3 w os, cB, ⟨177, 0, 177, 8⟩) := by kernel_rfl
theorem seg1 (w : World) (os : OsState) : goE (stQ pp w) (okQ 39 ann) 2188 (X3 w os) ⟨(execsQ sg1 env).wrap doneF deadEnd id id, cB, ⟨177, 0, 177, 8⟩, [topFrame q0]⟩ = some (.next, X4 w os, cB, ⟨436, 0, 457, 67⟩) := by kernel_rfl
theorem fin (w : World) (os : OsState) : goF (stQ pp w) 39 ann 2 (X4 w os) ⟨doneF .next, cB, ⟨436, 0, 457, 67⟩, [topFrame q0]⟩ = some (X4 w os) := by kernel_rfl
def os0 : OsState := (start (opening pp)).1.os
def MT : Nat := 12 + (1 + (2427 + (2188 + (2))))
theorem run (w : World) : topRun treeTable pp w 39 ann MT (X0 w os0).abs (topStub pp) = some (X4 w os0).abs := by
  have all : ∀ os : OsState, topRun treeTable pp w 39 ann MT (X0 w os).abs (topStub pp) = some (X4 w os).abs := fun os => by
    have k := piece_app (goE_q (seg0 w os)) (piece_app (goE_q (seg1 w os)) (piece_nil (goF_q (fin w os))))
    rw [← hb] at k
    exact go_top (goT_q (pre w os)) (piece_block (goB_q (blk w os)) k)
  exact all os0
theorem boot (w : World) : (openF (fun q => stQ q w) fenceQ 30000 pp).bind treeOf = some (X0 w os0) := by kernel_rfl
theorem size (w : World) : ((X0 w os0).abs.heap.isNs mainGlobals && (X0 w os0).abs.gens.size == 0, (X0 w os0).abs.heap.objs.size, (X0 w os0).abs.heap.nsMap mainGlobals "__annotations__") = (true, 39, ann) := by kernel_rfl
theorem looks (w : World) : looksF pp (X0 w os0).abs.heap (X4 w os0).abs = true := by kernel_rfl
theorem seen_ (w : World) : seenQ (PySem.W.view pp [0, 65]) looseH (importedModules pp.main.body) (fun s => xlAt (PySem.W.view pp [0, 65]) [] s && recOk Rw.toRowW.records s) (X4 w os0).abs = openGood (PySem.W.view pp [0, 65]) looseH := by kernel_rfl
theorem obs_ (w : World) : ob (X4 w os0) = (He.valD fnH, true) := by kernel_rfl
end HX
end

end Toy
/-! ### two tuples of the very same items -/
namespace OQ
open PySem L2 PySem.Spec PyProof.Rows
def SameIt (v : V) : Prop := flatB v = true ∨ ∃ r, v = .ref r
theorem eqAt_it {A : Around} {s : Shared} {v : V} {u u' : Value} (h : SameIt v) (r : RelV v u) (r' : RelV v u') : SeqAt.EqAt A s u u' true := by
  rcases h with h | ⟨a, rfl⟩
  · exact eqAt_same r r' h
  · cases r
    cases r'
    exact SeqAt.EqAt.same _
def rTupS (K : PySem.W.Frag) (ans : Bool) : R2 := fun x y H Q => ∃ a b xs, x = .ref a ∧ y = .ref b ∧ SqT K H a xs ∧ SqT K H b xs ∧ (∀ v ∈ xs, SameIt v) ∧ Q (.bl ans) H
theorem its_same {A : Around} {s : Shared} {xs : List V} {us ws : List Value} (h : ∀ v ∈ xs, SameIt v) (r1 : Vals xs us) (r2 : Vals xs ws) (j : Nat) (h1 : j < us.toArray.size) (h2 : j < ws.toArray.size) :
    SeqAt.EqAt A s us.toArray[j] ws.toArray[j] true := by
  have k1 : j < us.length := by simpa using h1
  have k2 : j < ws.length := by simpa using h2
  have kx : j < xs.length := by rw [r1.length]; exact k1
  obtain ⟨u, hu, ru⟩ := r1.get (List.getElem?_eq_getElem kx)
  obtain ⟨v, hv, rv⟩ := r2.get (List.getElem?_eq_getElem kx)
  rw [List.getElem?_eq_getElem k1] at hu
  rw [List.getElem?_eq_getElem k2] at hv
  have e1 : us.toArray[j] = u := by simpa using Option.some.inj hu
  have e2 : ws.toArray[j] = v := by simpa using Option.some.inj hv
  rw [e1, e2]
  exact eqAt_it (h _ (List.getElem_mem kx)) ru rv
theorem op_neTS {X : Cx} (hu : X.A.units < cLine) : OpR X (compareOp .NotEq) (rTupS X.K false) := by
  rintro pins s σ H x y v u Q I rx ry ⟨a, b, xs, rfl, rfl, ha, hb, hs, q⟩
  cases rx
  cases ry
  obtain ⟨us, r1, p1, _⟩ := I.tuple ha
  obtain ⟨ws, r2, p2, _⟩ := I.tuple hb
  have e := SeqAt.RcNeAt.tuples (e := fun _ => true) p1 p2 hu (fun j h1 h2 => its_same hs r1 r2 j h1 h2)
  refine e X.prog X.w X.xe _ ?_
  have sz : us.toArray.size = ws.toArray.size := by rw [List.size_toArray, List.size_toArray, ← r1.length, ← r2.length]
  have all : (!((List.range (min us.toArray.size ws.toArray.size)).all (fun _ => true) && us.toArray.size == ws.toArray.size)) = false := by rw [sz]; simp
  rw [all]
  exact ⟨.bl false, H, I, rfl, q⟩
section
variable {X : Cx} {CX : CXT} {C f : Addr} {fd : FuncData} {ps : List Str} {sp : Sp} {k : Nat} {ds : List Value} {dvs : List V} {E : L2.St → XK}
/-- o.m(e, ..), what is raised wished for at the slots -/
def tMethS (C : Addr) (m : Str) (sp : Sp) (dvs : List V) (E : L2.St → XK) (ta : TE) (t : TA) : TE := fun σ H Q => ta σ H fun x H1 => ∃ a dx fs, x = .ref a ∧ H1 a = some (.ins C dx fs) ∧ fs.lookup m = none ∧
  t σ H1 fun vs H2 => sp (x :: (vs ++ dvs)) H2 Q (E σ)
theorem d_methS {m : Str} {ta : TE} {t : TA} {σ : L2.St} {H : Hp} {Q : VK} (h : ta σ H fun x H1 => ∃ a dx fs, x = .ref a ∧ H1 a = some (.ins C dx fs) ∧ fs.lookup m = none ∧ t σ H1 fun vs H2 => sp (x :: (vs ++ dvs)) H2 Q (E σ)) :
    tMethS C m sp dvs E ta t σ H Q := h
theorem d_meth {E : XK} {m : Str} {ta : TE} {t : TA} {σ : L2.St} {H : Hp} {Q : VK} (h : ta σ H fun x H1 => ∃ a dx fs, x = .ref a ∧ H1 a = some (.ins C dx fs) ∧ fs.lookup m = none ∧ t σ H1 fun vs H2 => sp (x :: (vs ++ dvs)) H2 Q E) :
    tMeth C m sp dvs E ta t σ H Q := h
theorem pe_methX {o e : Expr} {m : Str} {es : List Expr} {ta : TE} {t : TA} {apos pos : Pos} {pl : Sem Bool} (he : PE X o ta) (c : Cls X.K C) (hm : Meth X.K C m f) (F : FnOk X.prog X.w X.K X.mg X.base CX k f fd ps sp) (hr : Room k X.A)
    (hb : Binds X.K fd ps ds) (hd : Vals dvs ds) (hx : ∀ σ, PassesAt CX X σ (E σ)) (ha : PA X (e :: es) t)
    (hst : starEach (e :: es) X.env = (false, eval e X.env) :: starEach es X.env := by rfl) (hpl : (backTo pos (starEach es X.env)).any (·.1) = false := by rfl)
    (ht : eval (.Call (.Attribute o m apos) (e :: es) [] pos) X.env = (eval o X.env >>= fun ov => standAt apos.atName >>= fun _ => holding [ov] (getMethod ov m pl) >>= fun z =>
      callWith pos z.1 z.2 (backTo pos (starEach (e :: es) X.env)) (backToKw pos (keywordEach [] X.env))) := by rfl) :
    PE X (.Call (.Attribute o m apos) (e :: es) [] pos) (tMethS C m sp dvs E ta t) := by
  refine ⟨fun pins s σ H Q I h => ?_⟩
  refine PySem.W.methodCall_KW (pl := pl) (thn (he.run pins s σ H _ I h) ?_) ht
  rintro u s1 ⟨x, H1, I1, rx, a, dx, fs, rfl, ea, l, q⟩
  cases rx
  refine getmeth_ok I1 ea c hm l ?_
  refine PySem.W.callWith_K (first := [.ref a]) (h₀ := X.base) I.ok.mod.kin hm.kp (thn (ha.run pos pins s1 σ H1 _ I1 q) ?_) hst hpl
  rintro us s2 ⟨vs, H2, I2, r, q2⟩
  exact ⟨I2.kIn, run_fnSD (us := Value.ref a :: us) (vs := V.ref a :: vs) F hr hb hd (hx σ) I2 (.cons rfl r) q2⟩
end
end OQ

namespace RM
/-- what both parts are divided by -/
def shr (i j : Int) : Int := if j < 0 then -((Nat.gcd i.natAbs j.natAbs : Nat) : Int) else ((Nat.gcd i.natAbs j.natAbs : Nat) : Int)
theorem gcd_pos {i j : Int} (h : j ≠ 0) : 0 < Nat.gcd i.natAbs j.natAbs := Nat.gcd_pos_of_pos_right _ (Int.natAbs_pos.mpr h)
theorem shr_ne {i j : Int} (h : j ≠ 0) : shr i j ≠ 0 := by
  have := gcd_pos (i := i) h
  unfold shr; split <;> omega
theorem shr_le {i j : Int} (h : j ≠ 0) : (shr i j).natAbs ≤ j.natAbs := by
  have := Nat.gcd_le_right i.natAbs (Int.natAbs_pos.mpr h)
  unfold shr; split <;> omega
theorem num_eq {i j : Int} (h : j ≠ 0) : i.fdiv (shr i j) = (Rat.divInt i j).num := by
  have g0 := gcd_pos (i := i) h
  have hd : ((Nat.gcd i.natAbs j.natAbs : Nat) : Int) ∣ i := Int.ofNat_dvd_left.mpr (Nat.gcd_dvd_left _ _)
  obtain ⟨k, hk⟩ := hd
  have e : j.gcd i = Nat.gcd i.natAbs j.natAbs := Nat.gcd_comm _ _
  rw [Rat.num_divInt, e]
  unfold shr
  generalize Nat.gcd i.natAbs j.natAbs = g at *
  split
  · rename_i hj
    rw [Int.sign_eq_neg_one_of_neg hj]
    have e1 : i = (-(g : Int)) * (-k) := by rw [hk, Int.neg_mul_neg]
    have e2 : -1 * i = (g : Int) * (-k) := by rw [hk, Int.mul_neg]; omega
    rw [e2, Int.mul_ediv_cancel_left _ (by omega)]
    conv => lhs; rw [e1]
    exact Int.mul_fdiv_cancel_left _ (by omega)
  · rename_i hj
    rw [Int.sign_eq_one_of_pos (by omega), Int.one_mul]
    conv => lhs; rw [hk]
    conv => rhs; rw [hk]
    rw [Int.mul_fdiv_cancel_left _ (by omega), Int.mul_ediv_cancel_left _ (by omega)]
theorem den_eq {i j : Int} (h : j ≠ 0) : j.fdiv (shr i j) = ((Rat.divInt i j).den : Int) := by
  have g0 := gcd_pos (i := i) h
  have hd : ((Nat.gcd i.natAbs j.natAbs : Nat) : Int) ∣ j := Int.ofNat_dvd_left.mpr (Nat.gcd_dvd_right _ _)
  obtain ⟨k, hk⟩ := hd
  have e : j.gcd i = Nat.gcd i.natAbs j.natAbs := Nat.gcd_comm _ _
  rw [Rat.den_divInt, if_neg h, e]
  unfold shr
  generalize Nat.gcd i.natAbs j.natAbs = g at *
  have ea : j.natAbs / g = k.natAbs := by rw [hk, Int.natAbs_mul, Int.natAbs_natCast, Nat.mul_div_cancel_left _ g0]
  rw [ea]
  split
  · rename_i hj
    have kn : k < 0 := by
      rcases Int.lt_or_le k 0 with q | q
      · exact q
      · have := Int.mul_nonneg (Int.natCast_nonneg g) q
        omega
    have e1 : j = (-(g : Int)) * (-k) := by rw [hk, Int.neg_mul_neg]
    conv => lhs; rw [e1]
    rw [Int.mul_fdiv_cancel_left _ (by omega)]
    omega
  · rename_i hj
    have kn : 0 ≤ k := by
      rcases Int.lt_or_le k 0 with q | q
      · have := Int.mul_neg_of_pos_of_neg (show (0 : Int) < g by omega) q
        omega
      · exact q
    conv => lhs; rw [hk]
    rw [Int.mul_fdiv_cancel_left _ (by omega)]
    omega
end RM

/-! ### == with a builtin value on the left, an own object on the right -/
namespace OQ
open PySem L2 PySem.Spec PyProof.Rows PySem.MeetsSeq PySem.SeqAt
section
variable {prog : Program} {w : World} {A : Around} {E : Value → Shared → Prop} {s : Shared} {K : PySem.W.Frag} {x C f dx : Addr} {od : Option Obj}
/-- the left one's own answer is NotImplemented -/
def Shy (prog : Program) (w : World) (A : Around) (E : Value → Shared → Prop) (s : Shared) (a : Value) (Ta : String) (x : Addr) : Prop :=
  ∃ id, Slot Ta "__eq__" id ∧ ∀ Q' : Value → Shared → Prop, Q' .notImplemented s → wpAny (model prog w) A (call (.builtin id) [a, .ref x]) Q' E s
theorem eq_back {a : Value} {Ta : String} {Q : Value → Shared → Prop} (hu : A.units < cLine) (ha : s.TypeIs a Ta) (shy : Shy prog w A E s a Ta x) (Z : K.In s.heap) (I : PySem.W.InstAt s.heap x (PySem.W.instObj C dx) C od)
    (hsub : PySem.W.subIn K (.ref C) (.type Ta) = some false) (hs : PySem.W.findIn K (.ref C) "__eq__" = some (some (.ref f))) (hf : PySem.W.isFn K (.ref f) = true)
    (h : wpAny (model prog w) A (call (.ref f) [.ref x, a]) (PySem.W.CmpBack Q) E s) : wpAny (model prog w) A (richCompare .Eq a (.ref x)) Q E s := by
  obtain ⟨id, slot, dec⟩ := shy
  have other : (Value.type Ta != Value.ref C) = true := rfl
  have one : wpAny (model prog w) A (tryCompare (.ref x) "__eq__" a) (fun r s' => ∃ v, r = some v ∧ Q v s') E s := by
    unfold tryCompare
    refine wpAny_bind (PySem.W.ifBound_K Z I hs hf (wpAny_mono h (fun v s' hv => ?_) fun _ _ z => z))
    cases v <;> first | exact hv.elim | exact wpAny_pure ⟨_, rfl, hv⟩
  rcases hi : cmpInfo CmpOp.Eq with ⟨sym, g, r⟩
  obtain ⟨rfl, rfl⟩ : g = ("__eq__" : Str) ∧ r = ("__eq__" : Str) := by
    have z : cmpInfo CmpOp.Eq = (_, _, _) := rfl
    rw [z] at hi
    cases hi
    exact ⟨rfl, rfl⟩
  simp only [richCompare, hi, ha.oneThing_none]
  refine wpAny_holding (wpAny_bind (wpAny_cRoomFor hu ?_))
  refine wpAny_bind (wpAny_typeOf ha (wpAny_bind (I.type.here ?_)))
  simp only [other, if_true]
  refine wpAny_bind ((PySem.W.looks_subIn Z hsub).here ?_)
  simp only [Bool.false_eq_true, if_false, Bool.not_false, if_true]
  refine wpAny_bind (m := tryCompare a _ (.ref x)) (wpAny_tryCompare_declines ha slot (dec _ ⟨rfl, ?_⟩))
  refine wpAny_bind (wpAny_mono one (fun r s' z => ?_) fun _ _ z => z)
  obtain ⟨v, rfl, q⟩ := z
  exact wpAny_pure q
theorem shy_none : Shy prog w A E s .none "NoneType" x := ⟨_, PySem.F.slot_NoneType_eq, fun _ q => call_gives PySem.F.slot_NoneType_eq rfl PySem.F.entry_NoneType_eq (PySem.F.args_NoneType_eq_2 _ _) (NoneType___eq___none_ref_0 x) q⟩
theorem int_shy (b : Int) (u : Tok) : Meets (Builtin.«int.__eq__» ⟨[.int b u, .ref x], []⟩) (fun _ R s => s.heap.get? x = some (PySem.W.instObj C dx) ∧ R (.ok (.ret .notImplemented)) s) :=
  .of_wp fun prog w A R s h => by obtain ⟨hp, g, d, tk, os⟩ := s; obtain ⟨hl, h⟩ := h; wp_walk using wpAny_loadPart_at hl, wpAny_load hl; exact ⟨_, rfl, h⟩
theorem str_shy (b : Str) (u : Tok) : Meets (Builtin.«str.__eq__» ⟨[.str b u, .ref x], []⟩) (fun _ R s => s.heap.get? x = some (PySem.W.instObj C dx) ∧ R (.ok (.ret .notImplemented)) s) :=
  .of_wp fun prog w A R s h => by obtain ⟨hp, g, d, tk, os⟩ := s; obtain ⟨hl, h⟩ := h; wp_walk using wpAny_loadPart_at hl, wpAny_load hl; exact ⟨_, rfl, h⟩
theorem shy_int (b : Int) (u : Tok) (hx : s.heap.get? x = some (PySem.W.instObj C dx)) : Shy prog w A E s (.int b u) "int" x := ⟨_, PySem.F.slot_int_eq, fun _ q => call_meets PySem.F.slot_int_eq (typeIs_int s b u) PySem.F.entry_int_eq (PySem.F.args_int_eq_2 _ _) (int_shy b u) ⟨hx, q⟩⟩
theorem shy_str (b : Str) (u : Tok) (hx : s.heap.get? x = some (PySem.W.instObj C dx)) : Shy prog w A E s (.str b u) "str" x := ⟨_, PySem.F.slot_str_eq, fun _ q => call_meets PySem.F.slot_str_eq (typeIs_str s b u) PySem.F.entry_str_eq (PySem.F.args_str_eq_2 _ _) (str_shy b u) ⟨hx, q⟩⟩
theorem list_shy (l : Addr) (items : Array Value) (n : Nat) (dd : Option Addr) (sl : Array (Option Value)) : Meets (Builtin.«list.__eq__» ⟨[.ref l, .ref x], []⟩)
    (fun _ R s => s.heap.get? l = some { cls := .type "list", dict := dd, data := .seq items n, slots := sl } ∧ s.heap.get? x = some (PySem.W.instObj C dx) ∧ K.In s.heap ∧ PySem.W.subIn K (.ref C) (.type "list") = some false ∧ R (.ok (.ret .notImplemented)) s) :=
  .of_wp fun prog w A R s h => by
    obtain ⟨hp, g, d, tk, os⟩ := s
    obtain ⟨hl, hx, Z, sub, h⟩ := h
    have hI : ∀ {A' : Around} {E' : Value → Shared → Prop} {Q' : Bool → Shared → Prop}, Q' false ⟨hp, g, d, tk, os⟩ → wpAny (model prog w) A' (isInstance (.ref x) (.type "list")) Q' E' ⟨hp, g, d, tk, os⟩ := fun q => by
      unfold isInstance
      exact wpAny_bind (wpAny_typeOf_ref hx ((PySem.W.looks_subIn Z sub).here q))
    wp_walk using wpAny_loadPart' hl, hI
    exact ⟨_, rfl, h⟩
theorem shy_list {l : Addr} {items : Array Value} (hl : s.heap.IsList l items) (hx : s.heap.get? x = some (PySem.W.instObj C dx)) (Z : K.In s.heap) (sub : PySem.W.subIn K (.ref C) (.type "list") = some false) : Shy prog w A E s (.ref l) "list" x := by
  obtain ⟨⟨c, dd, dt, sl⟩, ho, hc, n, hd⟩ := id hl
  simp only at hc hd
  subst hc hd
  exact ⟨_, PySem.F.slot_list_eq, fun _ q => call_meets PySem.F.slot_list_eq ⟨_, ho, rfl⟩ PySem.F.entry_list_eq (PySem.F.args_list_eq_2 _ _) (list_shy l items n dd sl) ⟨ho, hx, Z, sub, q⟩⟩
end
section
variable {X : Cx} {CX : CXT} {C f : Addr} {k : Nat} {fd : FuncData} {ps : List Str} {sp : Sp} {E : XK}
/-- the kinds on the left -/
def Plain4 (K : PySem.W.Frag) (H : Hp) (x : V) (T : String) : Prop := (x = .non ∧ T = "NoneType") ∨ (∃ i, x = .int i ∧ T = "int") ∨ (∃ z, x = .str z ∧ T = "str") ∨ ∃ a xs, x = .ref a ∧ SqL K H a xs ∧ T = "list"
def rBackEq (K : PySem.W.Frag) (C : Addr) (sp : Sp) (E : XK) : R2 := fun x y H Q => ∃ (a dx : Addr) (fs : List (Str × V)) (T : String), y = .ref a ∧ H a = some (.ins C dx fs) ∧ Plain4 K H x T ∧ PySem.W.subIn K (.ref C) (.type T) = some false ∧ sp [y, x] H Q E
theorem op_backEq (F : FnOk X.prog X.w X.K X.mg X.base CX k f fd ps sp) (hr : Room k X.A) (hs : PySem.W.findIn X.K (.ref C) "__eq__" = some (some (.ref f))) (hf : PySem.W.isFn X.K (.ref f) = true)
    (hb : Binds X.K fd ps []) (hx : Passes CX X E) : OpR X (compareOp .Eq) (rBackEq X.K C sp E) := by
  rintro pins s σ H x y v u Q I rx ry ⟨a, dx, fs, T, rfl, ha, pl, sub, q⟩
  cases ry
  obtain ⟨_, _, _, ob, _⟩ := (show ObjOk X.prog X.w H s.heap a (.ins C dx fs) from I.hok a _ ha)
  obtain ⟨_, J0, _⟩ := ins_get I.hok ha
  obtain ⟨od, J, _⟩ := J0.look
  have e := J.at_.symm.trans ob
  have call := wpAny_mono (run_at (A := X.A) rfl hr F hb hx I (vs := [V.ref a, x]) (us := [Value.ref a, v]) (Paired.cons (show RelV (V.ref a) (Value.ref a) from rfl) (Paired.cons rx .nil)) q) (fun _ _ z => cmpBack_of z) fun _ _ z => z
  cases e
  rcases pl with ⟨rfl, rfl⟩ | ⟨i, rfl, rfl⟩ | ⟨z, rfl, rfl⟩ | ⟨b, xs, rfl, hq, rfl⟩
  · cases rx
    exact eq_back hr.units0 rfl shy_none I.kIn J sub hs hf call
  · obtain ⟨t, rfl⟩ := rx
    exact eq_back hr.units0 (typeIs_int s i t) (shy_int i t ob) I.kIn J sub hs hf call
  · obtain ⟨t, rfl⟩ := rx
    exact eq_back hr.units0 (typeIs_str s z t) (shy_str z t ob) I.kIn J sub hs hf call
  · cases rx
    obtain ⟨its, _, p, _⟩ := I.list hq
    have hl := p.isList
    obtain ⟨o, ho, hc, _⟩ := id hl
    exact eq_back hr.units0 ⟨o, ho, hc⟩ (shy_list hl ob I.kIn sub) I.kIn J sub hs hf call
end
end OQ

/-! ### rows of numbers, compared -/
namespace OQ
open PySem L2 PySem.Spec PyProof.Rows
def Tn (p : List Nat) : List PyData := p.map fun (j : Nat) => .int (j : Int)
theorem Tn_all {K : PySem.W.Frag} {H : Hp} : ∀ p : List Nat, DpAll K H (WW.Ns p) (Tn p)
  | [] => .nil
  | j :: p => .cons (.int _) (Tn_all p)
theorem Tn_lay : ∀ p : List Nat, PyData.canLayAll0 (Tn p) = true ∧ PyData.depthAll (Tn p) = 0
  | [] => ⟨by rw [Tn, List.map_nil, PyData.canLayAll0], by rw [Tn, List.map_nil, PyData.depthAll]⟩
  | j :: p => by
    obtain ⟨h1, h2⟩ := Tn_lay p
    have e : Tn (j :: p) = .int (j : Int) :: Tn p := rfl
    rw [e, PyData.canLayAll0, PyData.canLay0, PyData.depthAll, PyData.depth, h1, h2]
    exact ⟨rfl, rfl⟩
theorem Tn_shaped (p : List Nat) : SeqAt.shaped (.tuple (Tn p)) = true := by
  obtain ⟨h1, h2⟩ := Tn_lay p
  unfold SeqAt.shaped; rw [PyData.canLay0, PyData.depth, h1, h2]; rfl
theorem Tn_eqv : ∀ p : List Nat, PyData.eqvAll (Tn p) (Tn p) = true
  | [] => by rw [Tn, List.map_nil, PyData.eqvAll]
  | j :: p => by
    have e : Tn (j :: p) = .int (j : Int) :: Tn p := rfl
    rw [e, PyData.eqvAll, PyData.eqv, Tn_eqv p]
    simp
/-- nothing, or the same way -/
def SameW (H : Hp) (v u : V) : Prop := (v = .non ∧ u = .non) ∨ ∃ t s p, v = .ref t ∧ u = .ref s ∧ H t = some (.tup (WW.Ns p)) ∧ H s = some (.tup (WW.Ns p))
theorem SameW.eq {K : PySem.W.Frag} {H : Hp} {Q : VK} {v u : V} (h : SameW H v u) (k : Q (.bl true) H) : rEqD K v u H Q := by
  rcases h with ⟨rfl, rfl⟩ | ⟨t, s, p, rfl, rfl, et, es⟩
  · exact ⟨_, _, .non, .non, rfl, rfl, by rw [PyData.eqv]; exact k⟩
  · exact ⟨_, _, .tup (SqT.of et) (Tn_all p), .tup (SqT.of es) (Tn_all p), Tn_shaped p, Tn_shaped p, by rw [PyData.eqv, Tn_eqv]; exact k⟩
theorem SameW.ne {K : PySem.W.Frag} {H : Hp} {Q : VK} {v u : V} (h : SameW H v u) (k : Q (.bl false) H) : rNeD K v u H Q := by
  rcases h with ⟨rfl, rfl⟩ | ⟨t, s, p, rfl, rfl, et, es⟩
  · exact ⟨_, _, .non, .non, rfl, rfl, by rw [PyData.eqv]; exact k⟩
  · exact ⟨_, _, .tup (SqT.of et) (Tn_all p), .tup (SqT.of es) (Tn_all p), Tn_shaped p, Tn_shaped p, by rw [PyData.eqv, Tn_eqv]; exact k⟩
end OQ

/-! ### the faults of tables, as functions -/
namespace RK
open PySem L2
abbrev Fl := Option (Str × Int × Int × Int)
def fnd {α : Type} (n : Nat) (f : Nat → Option α) : Option α := (List.range n).findSome? f
theorem fnd_succ {α : Type} (n : Nat) (f : Nat → Option α) : fnd (n + 1) f = (fnd n f).or (f n) := by
  unfold fnd
  rw [List.range_succ, List.findSome?_append]
  congr 1
  simp [List.findSome?]
  cases f n <;> rfl
theorem fnd_none {α : Type} {n : Nat} {f : Nat → Option α} (h : ∀ i, i < n → f i = none) : fnd n f = none := by
  unfold fnd
  rw [List.findSome?_eq_none_iff]
  exact fun i m => h i (List.mem_range.mp m)
theorem fnd_all {α : Type} {n : Nat} {f : Nat → Option α} (h : fnd n f = none) : ∀ i, i < n → f i = none := fun i hi => by
  unfold fnd at h
  rw [List.findSome?_eq_none_iff] at h
  exact h i (List.mem_range.mpr hi)
theorem fnd_at {α : Type} {n t : Nat} {f : Nat → Option α} {v : α} (h : ∀ i, i < t → f i = none) (ht : t < n) (e : f t = some v) : fnd n f = some v := by
  induction n with
  | zero => omega
  | succ n ih =>
    rw [fnd_succ]
    by_cases c : t = n
    · subst c
      rw [fnd_none h, e]; rfl
    · rw [ih (by omega)]; rfl
theorem fnd_congr {α : Type} {n : Nat} {f g : Nat → Option α} (h : ∀ i, i < n → f i = g i) : fnd n f = fnd n g := by
  induction n with
  | zero => rfl
  | succ n ih => rw [fnd_succ, fnd_succ, ih fun i hi => h i (by omega), h n (by omega)]
def noneF (n : Nat) (J M : Nat → Nat → Nat) (z : Nat) : Fl := fnd n fun a => if J z a = a ∧ J a z = a ∧ M z a = z ∧ M a z = z then none else some ("none", a, -1, -1)
def oneF (n : Nat) (M : Nat → Nat → Nat) (o : Nat) : Fl := fnd n fun a => if M o a = a ∧ M a o = a then none else some ("one", a, -1, -1)
def idleF (n : Nat) (J : Nat → Nat → Nat) : Fl := fnd n fun a => if J a a = a then none else some ("idle", a, -1, -1)
def swapF (n : Nat) (J : Nat → Nat → Nat) : Fl := fnd n fun a => fnd n fun b => if J a b = J b a then none else some ("swap", a, b, -1)
def groupF (w : Str) (n : Nat) (J : Nat → Nat → Nat) : Fl := fnd n fun a => fnd n fun b => fnd n fun c => if J (J a b) c = J a (J b c) then none else some (w, a, b, c)
def overF (n : Nat) (J M : Nat → Nat → Nat) : Fl := fnd n fun a => fnd n fun b => fnd n fun c => if M a (J b c) = J (M a b) (M a c) ∧ M (J b c) a = J (M b a) (M c a) then none else some ("over", a, b, c)
def sameF (z o : Nat) : Fl := if z = o then some ("same", -1, -1, -1) else none
def restF (n : Nat) (J M : Nat → Nat → Nat) (z o : Nat) : Fl :=
  (noneF n J M z).or ((oneF n M o).or ((idleF n J).or ((swapF n J).or ((groupF "join" n J).or ((groupF "product" n M).or ((overF n J M).or (sameF z o)))))))
/-- the fault F as a value -/
def FltAt (H : Hp) (v : V) : Fl → Prop
  | none => v = .non
  | some (w, a, b, c) => ∃ p, v = .ref p ∧ H p = some (.tup [.str w, .int a, .int b, .int c])
theorem FltAt.same {H H' : Hp} {v : V} : ∀ {F : Fl}, FltAt H v F → Same H H' → FltAt H' v F
  | none, h, _ => h
  | some (_, _, _, _), ⟨p, h1, h2⟩, s => ⟨p, h1, s _ _ h2⟩
/-! things, as data -/
def rowsOf : PyData → Option (List PyData)
  | .list ds => some ds
  | .tuple ds => some ds
  | _ => none
def intB : PyData → Bool
  | .int _ => true
  | _ => false
def belowB (n : Nat) : PyData → Bool
  | .int i => decide (0 ≤ i ∧ i < n)
  | _ => false
def sideB (n : Nat) (d : PyData) : Bool := match rowsOf d with
  | some ds => decide (ds.length = n) && ds.all (belowB n)
  | none => false
def squareB (n : Nat) (d : PyData) : Bool := match rowsOf d with
  | some ds => decide (ds.length = n) && ds.all (sideB n)
  | none => false
def natOf : PyData → Nat
  | .int i => i.toNat
  | _ => 0
def cellsOf (d : PyData) : List PyData := (rowsOf d).getD []
def tabf (d : PyData) (i j : Nat) : Nat := natOf ((cellsOf ((cellsOf d)[i]?.getD .none))[j]?.getD .none)
/-- whether sizes and places are as they must be -/
def sizeB (dj dp dz dn : PyData) : Bool := match rowsOf dj with
  | some ds => decide (2 ≤ ds.length ∧ ds.length ≤ 16) && (squareB ds.length dj && (squareB ds.length dp && (belowB ds.length dz && belowB ds.length dn)))
  | none => false
end RK
/-! ### tables of rows that are lists or tuples -/
namespace OQ
open PySem L2 PySem.Spec PyProof.Rows
def Ints (ns : List Nat) : List V := ns.map fun (j : Nat) => V.int j
def RowX (K : PySem.W.Frag) (H : Hp) (r : Addr) (n : Nat) (g : Nat → Nat) : Prop := SeqAt K H r ((List.range n).map fun j => V.int (g j : Nat))
def TabX (K : PySem.W.Frag) (H : Hp) (a : Addr) (n : Nat) (f : Nat → Nat → Nat) : Prop := ∃ rs : List Addr, rs.length = n ∧ SeqAt K H a (rs.map V.ref) ∧ ∀ (i : Nat) (r : Addr), rs[i]? = some r → RowX K H r n (f i)
theorem TabX.same {K : PySem.W.Frag} {H H' : Hp} {a : Addr} {n : Nat} {f : Nat → Nat → Nat} (h : TabX K H a n f) (s : Same H H') : TabX K H' a n f := by
  obtain ⟨rs, l, e, q⟩ := h
  exact ⟨rs, l, e.same s, fun i r z => (q i r z).same s⟩
def rIxA (K : PySem.W.Frag) : R2 := fun x y H Q => ∃ p xs i v, x = .ref p ∧ y = .int i ∧ SeqAt K H p xs ∧ atI xs i = some v ∧ Q v H
theorem ix_seq {X : Cx} : IxR X (rIxA X.K) := by
  intro value slice pins s σ H x y v u Q I rx ry h hs
  obtain ⟨p, xs, i, z, e1, e2, hq | hq, he, q⟩ := h
  · exact ix_list value slice pins s σ H x y v u Q I rx ry ⟨p, xs, i, z, e1, e2, hq, he, q⟩ hs
  · exact ix_tup value slice pins s σ H x y v u Q I rx ry ⟨p, xs, i, z, e1, e2, hq, he, q⟩ hs
theorem ixA {X : Cx} (K : PySem.W.Frag) (h : X.K = K := by rfl) : IxR X (rIxA K) := h ▸ ix_seq
section
variable {K : PySem.W.Frag} {H : Hp} {a : Addr} {n : Nat} {Q : VK}
theorem d_ixA {p : Addr} {xs : List V} {i : Int} {v : V} (hs : SeqAt K H p xs) (e : atI xs i = some v) (h : Q v H) : rIxA K (.ref p) (.int i) H Q := ⟨p, xs, i, v, rfl, rfl, hs, e, h⟩
theorem xT {f : Nat → Nat → Nat} {i : Int} {m : Nat} (h : TabX K H a n f) (e : i = m) (hn : m < n) (k : ∀ r, RowX K H r n (f m) → Q (.ref r) H) : rIxA K (.ref a) (.int i) H Q := by
  obtain ⟨rs, len, ea, rows⟩ := h
  have hm : m < rs.length := by rw [len]; exact hn
  subst e
  exact d_ixA ea (atI_nat (by rw [List.getElem?_map, List.getElem?_eq_getElem hm]; rfl)) (k _ (rows m _ (List.getElem?_eq_getElem hm)))
theorem xR {g : Nat → Nat} {i : Int} {m : Nat} (h : RowX K H a n g) (e : i = m) (hn : m < n) (k : Q (.int (g m : Nat)) H) : rIxA K (.ref a) (.int i) H Q := by
  subst e
  exact d_ixA h (atI_nat (by rw [List.getElem?_map, List.getElem?_range hn]; rfl)) k
theorem TabX.len {f : Nat → Nat → Nat} (h : TabX K H a n f) (k : Q (.int n) H) : RD.rLen K [.ref a] H Q := by
  obtain ⟨rs, len, ea, rows⟩ := h
  refine ea.len ?_
  rw [List.length_map, len]; exact k
theorem RowX.len {g : Nat → Nat} (h : RowX K H a n g) (k : Q (.int n) H) : RD.rLen K [.ref a] H Q := by
  refine SeqAt.len h ?_
  rw [List.length_map, List.length_range]; exact k
end
/-! the data of a thing -/
mutual
theorem Dp.same {K : PySem.W.Frag} {H H' : Hp} (s : Same H H') : ∀ (d : PyData) (v : V), Dp K H v d → Dp K H' v d
  | .none, _, h => by cases h; exact .non
  | .bool b, _, h => by cases h; exact .bl b
  | .int i, _, h => by cases h; exact .int i
  | .str x, _, h => by cases h; exact .str x
  | .list ds, _, h => by
    cases h with
    | lst h1 h2 => exact .lst (s.seq h1) (DpAll.same s ds _ h2)
  | .tuple ds, _, h => by
    cases h with
    | tup h1 h2 => exact .tup (sqT_same h1 s) (DpAll.same s ds _ h2)
  | .dict _, _, h => by cases h
theorem DpAll.same {K : PySem.W.Frag} {H H' : Hp} (s : Same H H') : ∀ (ds : List PyData) (vs : List V), DpAll K H vs ds → DpAll K H' vs ds
  | [], _, h => by cases h; exact .nil
  | d :: ds, _, h => by
    cases h with
    | cons h1 h2 => exact .cons (Dp.same s d _ h1) (DpAll.same s ds _ h2)
end
theorem dpAll_len {K : PySem.W.Frag} {H : Hp} : ∀ {ds : List PyData} {vs : List V}, DpAll K H vs ds → vs.length = ds.length
  | [], _, h => by cases h; rfl
  | _ :: ds, _, h => by
    cases h with
    | cons h1 h2 => rw [List.length_cons, List.length_cons, dpAll_len h2]
theorem dpAll_get {K : PySem.W.Frag} {H : Hp} : ∀ {ds : List PyData} {vs : List V}, DpAll K H vs ds → ∀ {i : Nat} {v : V}, vs[i]? = some v → ∃ d, ds[i]? = some d ∧ Dp K H v d
  | [], _, h, i, v, e => by cases h; simp at e
  | d :: ds, _, h, i, v, e => by
    cases h with
    | cons h1 h2 =>
      cases i with
      | zero => simp at e; subst e; exact ⟨d, rfl, h1⟩
      | succ i => simp at e; obtain ⟨d', q1, q2⟩ := dpAll_get h2 e; exact ⟨d', by simpa using q1, q2⟩
theorem dpAll_of {K : PySem.W.Frag} {H : Hp} : ∀ {vs : List V}, (∀ v ∈ vs, ∃ d, Dp K H v d) → ∃ ds, DpAll K H vs ds
  | [], _ => ⟨[], .nil⟩
  | v :: vs, h => by
    obtain ⟨d, h1⟩ := h v (List.mem_cons_self ..)
    obtain ⟨ds, h2⟩ := dpAll_of (vs := vs) fun x m => h x (List.mem_cons_of_mem _ m)
    exact ⟨d :: ds, .cons h1 h2⟩
theorem dp_row {K : PySem.W.Frag} {H : Hp} {d : PyData} {v : V} {ds : List PyData} (h : Dp K H v d) (e : RK.rowsOf d = some ds) : ∃ a xs, v = .ref a ∧ SeqAt K H a xs ∧ DpAll K H xs ds := by
  cases h with
  | lst h1 h2 => cases e; exact ⟨_, _, rfl, .inl h1, h2⟩
  | tup h1 h2 => cases e; exact ⟨_, _, rfl, .inr h1, h2⟩
  | _ => cases e
theorem SeqAt.ty {K : PySem.W.Frag} {H : Hp} {a : Addr} {xs : List V} (h : SeqAt K H a xs) : ∃ t, TyX K H (.ref a) t ∧ (t = .type "list" ∨ t = .type "tuple") := by
  rcases h with ((h | ⟨o, h⟩) | ⟨o, _, _, h, c, _⟩) | ((h | ⟨o, h⟩) | ⟨o, _, _, h, c, _⟩)
  · exact ⟨_, .base (.lst h), .inl rfl⟩
  · exact ⟨_, .base (.frz h), .inl rfl⟩
  · exact ⟨_, .kList h c, .inl rfl⟩
  · exact ⟨_, .base (.tup h), .inr rfl⟩
  · exact ⟨_, .fTuple h, .inr rfl⟩
  · exact ⟨_, .kTuple h c, .inr rfl⟩
/-- the type of a thing -/
theorem dp_ty {K : PySem.W.Frag} {H : Hp} {d : PyData} {v : V} (h : Dp K H v d) : ∃ t, TyX K H v (.type t) ∧ t ∈ ["NoneType", "bool", "int", "str", "list", "tuple"] ∧ (t = "list" ∨ t = "tuple" ↔ (RK.rowsOf d).isSome = true) ∧ (t = "int" ↔ RK.intB d = true) := by
  cases h with
  | non => exact ⟨_, .base .non, by simp, by simp [RK.rowsOf], by simp [RK.intB]⟩
  | bl b => exact ⟨_, .base (.bl b), by simp, by simp [RK.rowsOf], by simp [RK.intB]⟩
  | int i => exact ⟨_, .base (.int i), by simp, by simp [RK.rowsOf], by simp [RK.intB]⟩
  | str x => exact ⟨_, .base (.str x), by simp, by simp [RK.rowsOf], by simp [RK.intB]⟩
  | lst h1 h2 =>
    rcases h1 with (h | ⟨o, h⟩) | ⟨o, _, _, h, c, _⟩
    · exact ⟨_, .base (.lst h), by simp, by simp [RK.rowsOf], by simp [RK.intB]⟩
    · exact ⟨_, .base (.frz h), by simp, by simp [RK.rowsOf], by simp [RK.intB]⟩
    · exact ⟨_, .kList h c, by simp, by simp [RK.rowsOf], by simp [RK.intB]⟩
  | tup h1 h2 =>
    rcases h1 with (h | ⟨o, h⟩) | ⟨o, _, _, h, c, _⟩
    · exact ⟨_, .base (.tup h), by simp, by simp [RK.rowsOf], by simp [RK.intB]⟩
    · exact ⟨_, .fTuple h, by simp, by simp [RK.rowsOf], by simp [RK.intB]⟩
    · exact ⟨_, .kTuple h c, by simp, by simp [RK.rowsOf], by simp [RK.intB]⟩
theorem dp_isRow {K : PySem.W.Frag} {H : Hp} {d : PyData} {v : V} (h : Dp K H v d) : ∃ t, TyX K H v t ∧ PySem.W.kitAny K t [.type "list", .type "tuple"] = some (RK.rowsOf d).isSome := by
  obtain ⟨t, ty, m, e1, _⟩ := dp_ty h
  refine ⟨_, ty, ?_⟩
  simp only [List.mem_cons, List.not_mem_nil, or_false] at m
  have nl : ∀ {t : String}, ¬ (t = "list" ∨ t = "tuple") → (t = "list" ∨ t = "tuple" ↔ (RK.rowsOf d).isSome = true) → (RK.rowsOf d).isSome = false := fun n e => by
    cases q : (RK.rowsOf d).isSome with
    | false => rfl
    | true => exact (n (e.mpr q)).elim
  have no : ∀ {t : String} {b : Bool}, PySem.W.kitOne K (.type t) (.type "list") = some false → PySem.W.kitOne K (.type t) (.type "tuple") = some b → PySem.W.kitAny K (.type t) [.type "list", .type "tuple"] = some b := fun a c => by
    unfold PySem.W.kitAny
    rw [a]
    unfold PySem.W.kitAny
    simp only [c]
    split <;> simp_all [PySem.W.kitAny]
  rcases m with rfl | rfl | rfl | rfl | rfl | rfl
  · rw [nl (by decide) e1]; exact no (kit_ty (by decide +kernel)) (kit_ty (by decide +kernel))
  · rw [nl (by decide) e1]; exact no (kit_ty (by decide +kernel)) (kit_ty (by decide +kernel))
  · rw [nl (by decide) e1]; exact no (kit_ty (by decide +kernel)) (kit_ty (by decide +kernel))
  · rw [nl (by decide) e1]; exact no (kit_ty (by decide +kernel)) (kit_ty (by decide +kernel))
  · rw [e1.mp (.inl rfl)]
    unfold PySem.W.kitAny
    rw [kit_ty (r := true) (by decide +kernel)]
  · rw [e1.mp (.inr rfl)]; exact no (kit_ty (by decide +kernel)) (kit_ty (by decide +kernel))
theorem dp_isInt {K : PySem.W.Frag} {H : Hp} {d : PyData} {v : V} (h : Dp K H v d) : ∃ (t : Value) (b1 b2 : Bool), TyX K H v t ∧ PySem.W.kitOne K t (.type "int") = some b1 ∧ PySem.W.kitOne K t (.type "bool") = some b2 ∧ RK.intB d = (b1 && !b2) := by
  obtain ⟨t, ty, m, _, e2⟩ := dp_ty h
  simp only [List.mem_cons, List.not_mem_nil, or_false] at m
  have nl : ∀ {t : String}, ¬ t = "int" → (t = "int" ↔ RK.intB d = true) → RK.intB d = false := fun n e => by
    cases q : RK.intB d with
    | false => rfl
    | true => exact (n (e.mpr q)).elim
  rcases m with rfl | rfl | rfl | rfl | rfl | rfl
  · exact ⟨_, false, false, ty, kit_ty (by decide +kernel), kit_ty (by decide +kernel), by rw [nl (by decide) e2]; rfl⟩
  · exact ⟨_, true, true, ty, kit_ty (by decide +kernel), kit_ty (by decide +kernel), by rw [nl (by decide) e2]; rfl⟩
  · exact ⟨_, true, false, ty, kit_ty (by decide +kernel), kit_ty (by decide +kernel), by rw [e2.mp rfl]; rfl⟩
  · exact ⟨_, false, false, ty, kit_ty (by decide +kernel), kit_ty (by decide +kernel), by rw [nl (by decide) e2]; rfl⟩
  · exact ⟨_, false, false, ty, kit_ty (by decide +kernel), kit_ty (by decide +kernel), by rw [nl (by decide) e2]; rfl⟩
  · exact ⟨_, false, false, ty, kit_ty (by decide +kernel), kit_ty (by decide +kernel), by rw [nl (by decide) e2]; rfl⟩
theorem belowB_int {n : Nat} {d : PyData} (h : RK.belowB n d = true) : ∃ i : Int, d = .int i ∧ 0 ≤ i ∧ i < n := by
  unfold RK.belowB at h
  split at h
  · exact ⟨_, rfl, of_decide_eq_true h⟩
  · cases h
theorem sideB_rows {n : Nat} {d : PyData} (h : RK.sideB n d = true) : ∃ ds, RK.rowsOf d = some ds ∧ ds.length = n ∧ ∀ x ∈ ds, RK.belowB n x = true := by
  unfold RK.sideB at h
  split at h
  · rename_i ds e
    rw [Bool.and_eq_true, decide_eq_true_eq, List.all_eq_true] at h
    exact ⟨ds, e, h.1, h.2⟩
  · cases h
theorem squareB_rows {n : Nat} {d : PyData} (h : RK.squareB n d = true) : ∃ ds, RK.rowsOf d = some ds ∧ ds.length = n ∧ ∀ x ∈ ds, RK.sideB n x = true := by
  unfold RK.squareB at h
  split at h
  · rename_i ds e
    rw [Bool.and_eq_true, decide_eq_true_eq, List.all_eq_true] at h
    exact ⟨ds, e, h.1, h.2⟩
  · cases h
/-- a side as a row of numbers -/
theorem dp_side {K : PySem.W.Frag} {H : Hp} {d : PyData} {v : V} {n : Nat} (h : Dp K H v d) (e : RK.sideB n d = true) : ∃ a, v = .ref a ∧ RowX K H a n (fun j => RK.natOf ((RK.cellsOf d)[j]?.getD .none)) ∧ ∀ j, j < n → RK.natOf ((RK.cellsOf d)[j]?.getD .none) < n := by
  obtain ⟨ds, e1, e2, e3⟩ := sideB_rows e
  obtain ⟨a, xs, rfl, sa, da⟩ := dp_row h e1
  have ec : RK.cellsOf d = ds := by unfold RK.cellsOf; rw [e1]; rfl
  have key : ∀ j (hj : j < n), ∃ i : Int, 0 ≤ i ∧ i < n ∧ ds[j]? = some (.int i) ∧ xs[j]? = some (.int i) := fun j hj => by
    have jx : j < xs.length := by rw [dpAll_len da, e2]; exact hj
    obtain ⟨d', q1, q2⟩ := dpAll_get da (List.getElem?_eq_getElem jx)
    obtain ⟨i, rfl, h0, h1⟩ := belowB_int (e3 d' (List.mem_of_getElem? q1))
    refine ⟨i, h0, h1, q1, ?_⟩
    rw [List.getElem?_eq_getElem jx]
    generalize xs[j] = y at q2
    cases q2
    rfl
  refine ⟨a, rfl, ?_, fun j hj => ?_⟩
  · have : xs = (List.range n).map fun j => V.int (RK.natOf ((RK.cellsOf d)[j]?.getD .none) : Nat) := by
      apply List.ext_getElem?
      intro j
      by_cases hj : j < n
      · obtain ⟨i, h0, h1, q1, q2⟩ := key j hj
        rw [q2, List.getElem?_map, List.getElem?_range hj, ec]
        simp only [Option.map_some, q1, Option.getD_some, RK.natOf]
        congr 2
        omega
      · rw [List.getElem?_eq_none (by rw [dpAll_len da, e2]; omega), List.getElem?_eq_none (by simp; omega)]
    unfold RowX
    rw [← this]
    exact sa
  · obtain ⟨i, h0, h1, q1, q2⟩ := key j hj
    rw [ec, q1]
    simp only [Option.getD_some, RK.natOf]
    omega
/-- a square as a table -/
theorem dp_tab {K : PySem.W.Frag} {H : Hp} {d : PyData} {v : V} {n : Nat} (h : Dp K H v d) (e : RK.squareB n d = true) : ∃ a, v = .ref a ∧ TabX K H a n (RK.tabf d) ∧ ∀ i j, i < n → j < n → RK.tabf d i j < n := by
  obtain ⟨ds, e1, e2, e3⟩ := squareB_rows e
  obtain ⟨a, xs, rfl, sa, da⟩ := dp_row h e1
  have ec : RK.cellsOf d = ds := by unfold RK.cellsOf; rw [e1]; rfl
  have key : ∀ i (hi : i < n), ∃ r, xs[i]? = some (.ref r) ∧ RowX K H r n (RK.tabf d i) ∧ ∀ j, j < n → RK.tabf d i j < n := fun i hi => by
    have ix : i < xs.length := by rw [dpAll_len da, e2]; exact hi
    obtain ⟨d', q1, q2⟩ := dpAll_get da (List.getElem?_eq_getElem ix)
    obtain ⟨r, er, R, b⟩ := dp_side q2 (e3 d' (List.mem_of_getElem? q1))
    have tf : RK.tabf d i = fun j => RK.natOf ((RK.cellsOf d')[j]?.getD .none) := by
      funext j
      unfold RK.tabf
      rw [ec, q1]; rfl
    exact ⟨r, by rw [List.getElem?_eq_getElem ix, er], by rw [tf]; exact R, fun j hj => by rw [tf]; exact b j hj⟩
  obtain ⟨rs, ers⟩ : ∃ rs : List Addr, xs = rs.map V.ref := by
    have all : ∀ y ∈ xs, ∃ r, y = V.ref r := fun y m => by
      obtain ⟨i, hi⟩ := List.getElem?_of_mem m
      have : i < n := by have := (List.getElem?_eq_some_iff.mp hi).1; rw [dpAll_len da, e2] at this; exact this
      obtain ⟨r, er, _⟩ := key i this
      rw [er] at hi; cases hi; exact ⟨r, rfl⟩
    clear sa da key
    induction xs with
    | nil => exact ⟨[], rfl⟩
    | cons y ys ih =>
      obtain ⟨r, rfl⟩ := all y (List.mem_cons_self ..)
      obtain ⟨rs, rfl⟩ := ih fun z m => all z (List.mem_cons_of_mem _ m)
      exact ⟨r :: rs, rfl⟩
  subst ers
  have len := dpAll_len da
  rw [List.length_map, e2] at len
  refine ⟨a, rfl, ⟨rs, len, sa, fun i r hr => ?_⟩, fun i j hi hj => ?_⟩
  · have hi : i < n := by have := (List.getElem?_eq_some_iff.mp hr).1; omega
    obtain ⟨r', q, R, _⟩ := key i hi
    rw [List.getElem?_map, hr] at q
    cases q
    exact R
  · obtain ⟨r', q, R, b⟩ := key i hi
    exact b j hj
theorem rows_dp {K : PySem.W.Frag} {H : Hp} {r : Addr} {n : Nat} {g : Nat → Nat} (h : RowX K H r n g) (b : ∀ j, j < n → g j < n) : ∃ d, Dp K H (.ref r) d ∧ RK.sideB n d = true ∧ ∀ j, j < n → RK.natOf ((RK.cellsOf d)[j]?.getD .none) = g j := by
  have all : ∀ m : Nat, DpAll K H ((List.range m).map fun j => V.int (g j : Nat)) ((List.range m).map fun j => PyData.int (g j : Nat)) := fun m => by
    have : ∀ l : List Nat, DpAll K H (l.map fun j => V.int (g j : Nat)) (l.map fun j => PyData.int (g j : Nat)) := fun l => by
      induction l with
      | nil => exact .nil
      | cons x l ih => exact .cons (.int _) ih
    exact this _
  have sb : (decide (((List.range n).map fun j => PyData.int (g j : Nat)).length = n) && ((List.range n).map fun j => PyData.int (g j : Nat)).all (RK.belowB n)) = true := by
    rw [Bool.and_eq_true, decide_eq_true_eq, List.all_eq_true]
    refine ⟨by simp, fun x m => ?_⟩
    obtain ⟨j, mj, rfl⟩ := List.mem_map.mp m
    have := b j (List.mem_range.mp mj)
    exact decide_eq_true (by omega)
  have val : ∀ j, j < n → RK.natOf ((((List.range n).map fun j => PyData.int (g j : Nat))[j]?).getD .none) = g j := fun j hj => by
    rw [List.getElem?_map, List.getElem?_range hj]
    simp [RK.natOf]
  rcases h with h | h
  · exact ⟨_, .lst h (all n), by unfold RK.sideB; exact sb, val⟩
  · exact ⟨_, .tup h (all n), by unfold RK.sideB; exact sb, val⟩
theorem tab_dp {K : PySem.W.Frag} {H : Hp} {a : Addr} {n : Nat} {f : Nat → Nat → Nat} (h : TabX K H a n f) (b : ∀ i j, i < n → j < n → f i j < n) : ∃ d, Dp K H (.ref a) d ∧ RK.squareB n d = true ∧ (∀ i j, i < n → j < n → RK.tabf d i j = f i j) ∧ ∃ ds, RK.rowsOf d = some ds ∧ ds.length = n := by
  obtain ⟨rs, len, sa, rows⟩ := h
  have each : ∀ (i : Nat) (r : Addr), rs[i]? = some r → ∃ d, Dp K H (.ref r) d ∧ RK.sideB n d = true ∧ ∀ j, j < n → RK.natOf ((RK.cellsOf d)[j]?.getD .none) = f i j := fun i r hr => by
    have hi : i < n := by have := (List.getElem?_eq_some_iff.mp hr).1; omega
    exact rows_dp (rows i r hr) fun j hj => b i j hi hj
  obtain ⟨ds, all, dl, prop⟩ : ∃ ds, DpAll K H (rs.map V.ref) ds ∧ ds.length = n ∧ ∀ (i : Nat) (d : PyData), ds[i]? = some d → RK.sideB n d = true ∧ ∀ j, j < n → RK.natOf ((RK.cellsOf d)[j]?.getD .none) = f i j := by
    have gen : ∀ (ts : List Addr) (k : Nat), (∀ (i : Nat) (r : Addr), ts[i]? = some r → ∃ d, Dp K H (.ref r) d ∧ RK.sideB n d = true ∧ ∀ j, j < n → RK.natOf ((RK.cellsOf d)[j]?.getD .none) = f (k + i) j) →
        ∃ ds, DpAll K H (ts.map V.ref) ds ∧ ds.length = ts.length ∧ ∀ (i : Nat) (d : PyData), ds[i]? = some d → RK.sideB n d = true ∧ ∀ j, j < n → RK.natOf ((RK.cellsOf d)[j]?.getD .none) = f (k + i) j := by
      intro ts
      induction ts with
      | nil => intro k _; exact ⟨[], .nil, rfl, fun i d e => by simp at e⟩
      | cons t ts ih =>
        intro k h
        obtain ⟨d, h1, h2⟩ := h 0 t rfl
        obtain ⟨ds, q1, q2, q3⟩ := ih (k + 1) fun i r hr => by
          have := h (i + 1) r (by simpa using hr)
          rwa [show k + (i + 1) = k + 1 + i from by omega] at this
        refine ⟨d :: ds, .cons h1 q1, by rw [List.length_cons, List.length_cons, q2], fun i d' e => ?_⟩
        cases i with
        | zero => simp at e; subst e; exact h2
        | succ i =>
          have := q3 i d' (by simpa using e)
          rwa [show k + 1 + i = k + (i + 1) from by omega] at this
    obtain ⟨ds, q1, q2, q3⟩ := gen rs 0 (by simpa using each)
    exact ⟨ds, q1, by rw [q2, len], by simpa using q3⟩
  have sb : (decide (ds.length = n) && ds.all (RK.sideB n)) = true := by
    rw [Bool.and_eq_true, decide_eq_true_eq, List.all_eq_true]
    refine ⟨dl, fun x m => ?_⟩
    obtain ⟨i, hi⟩ := List.getElem?_of_mem m
    exact (prop i x hi).1
  have val : ∀ i j, i < n → j < n → RK.natOf ((RK.cellsOf ((ds[i]?).getD .none))[j]?.getD .none) = f i j := fun i j hi hj => by
    have il : i < ds.length := by omega
    rw [List.getElem?_eq_getElem il, Option.getD_some]
    exact (prop i _ (List.getElem?_eq_getElem il)).2 j hj
  rcases sa with sa | sa
  · exact ⟨_, .lst sa all, by unfold RK.squareB; exact sb, val, ds, rfl, dl⟩
  · exact ⟨_, .tup sa all, by unfold RK.squareB; exact sb, val, ds, rfl, dl⟩
/-- the data of a thing, a dict among them -/
def Dq (K : PySem.W.Frag) (H : Hp) (v : V) (d : PyData) : Prop := Dp K H v d ∨ (d = .dict [] ∧ ∃ a kvs, v = .ref a ∧ H a = some (.dK kvs))
theorem Dq.same {K : PySem.W.Frag} {H H' : Hp} {v : V} {d : PyData} (h : Dq K H v d) (s : Same H H') : Dq K H' v d := by
  rcases h with h | ⟨e, a, kvs, h1, h2⟩
  · exact .inl (Dp.same s d v h)
  · exact .inr ⟨e, a, kvs, h1, s _ _ h2⟩
theorem Dq.dp {K : PySem.W.Frag} {H : Hp} {v : V} {d : PyData} {ds : List PyData} (h : Dq K H v d) (e : RK.rowsOf d = some ds) : Dp K H v d := by
  rcases h with h | ⟨rfl, _⟩
  · exact h
  · cases e
theorem dq_isRow {K : PySem.W.Frag} {H : Hp} {d : PyData} {v : V} (h : Dq K H v d) : ∃ t, TyX K H v t ∧ PySem.W.kitAny K t [.type "list", .type "tuple"] = some (RK.rowsOf d).isSome := by
  rcases h with h | ⟨rfl, a, kvs, rfl, h2⟩
  · exact dp_isRow h
  · refine ⟨.type "dict", .base (.dK h2), ?_⟩
    unfold PySem.W.kitAny
    rw [kit_ty (r := false) (by decide +kernel)]
    unfold PySem.W.kitAny
    rw [kit_ty (r := false) (by decide +kernel)]
    rfl
theorem dq_tab {K : PySem.W.Frag} {H : Hp} {d : PyData} {v : V} {n : Nat} (h : Dq K H v d) (e : RK.squareB n d = true) : ∃ a, v = .ref a ∧ TabX K H a n (RK.tabf d) ∧ ∀ i j, i < n → j < n → RK.tabf d i j < n := by
  obtain ⟨ds, e1, _⟩ := squareB_rows e
  exact dp_tab (h.dp e1) e
theorem d_seqFld {K : PySem.W.Frag} {σ : L2.St} {H : Hp} {R : It → Hp → Prop} {n : Nat} {x C dx pt : Addr} {fs : List (Str × V)} {f : Str} {xs : List V} (ev : σ[n]? = some (some (.ref x))) (ex : H x = some (.ins C dx fs)) (cl : Cls K C) (na : NoAttr K C f) (lk : fs.lookup f = some (.ref pt)) (h : SeqAt K H pt xs)
    (k : ∀ J G, Walk J xs.length G (YAt xs) → (∀ H', Same H H' → G H') → R J H) : iOr (iList K (tFld K (tVar n) f)) (iTup K (tFld K (tVar n) f)) σ H R := by
  rcases h with h | h
  · exact .inl (RD.d_iList (RD.d_fld (RD.d_var ev ⟨x, C, dx, fs, _, rfl, ex, cl, na, lk, pt, rfl, ⟨xs, h⟩, k _ _ walk_list fun H' s => s.seq h⟩)))
  · exact .inr (RD.d_fld (RD.d_var ev ⟨x, C, dx, fs, _, rfl, ex, cl, na, lk, pt, rfl, ⟨xs, h⟩, k _ _ walk_tup fun H' s => sqT_same h s⟩))
end OQ
namespace RD
open PySem L2
/-- a list of two taken apart by two names -/
theorem d_twoL {K : PySem.W.Frag} {n i j : Nat} {a : Addr} {x y : V} {σ : L2.St} {H : Hp} {R : L2.St → Hp → Prop} (en : n = 2) (e : SqL K H a [x, y]) (k : R ((σ.set i (some x)).set j (some y)) H) :
    gLst K n (gCons (gName i) (gCons (gName j) gNil)) (.ref a) σ H R := ⟨a, [x, y], rfl, e, en.symm, x, [y], rfl, y, [], rfl, rfl, k⟩
end RD
namespace OQ
open PySem L2 PySem.Spec PyProof.Rows
def rListK (K : PySem.W.Frag) : List V → Hp → VK → Prop := fun xs H Q => ∃ p ys, xs = [.ref p] ∧ SeqAt K H p ys ∧ ∀ l, H l = none → Q (.ref l) (upd H l (.lst ys))
theorem listK {X : Cx} (K : PySem.W.Frag) (h : X.K = K := by rfl) : CallR X (.type "list") (rListK K) := h ▸ call_list_of
theorem dpAll_ofP {K : PySem.W.Frag} {H : Hp} {P : Nat → PyData → Prop} : ∀ {vs : List V} {k : Nat}, (∀ i v, vs[i]? = some v → ∃ d, Dp K H v d ∧ P (k + i) d) → ∃ ds, DpAll K H vs ds ∧ ∀ i d, ds[i]? = some d → P (k + i) d
  | [], _, _ => ⟨[], .nil, fun i d e => by simp at e⟩
  | v :: vs, k, h => by
    obtain ⟨d, h1, h2⟩ := h 0 v rfl
    obtain ⟨ds, q1, q2⟩ := dpAll_ofP (vs := vs) (k := k + 1) fun i x e => by
      have := h (i + 1) x (by simpa using e)
      rwa [show k + (i + 1) = k + 1 + i from by omega] at this
    refine ⟨d :: ds, .cons h1 q1, fun i d' e => ?_⟩
    cases i with
    | zero => simp at e; subst e; exact h2
    | succ i =>
      have := q2 i d' (by simpa using e)
      rwa [show k + 1 + i = k + (i + 1) from by omega] at this
end OQ

/-! ### reckonings that have none of the faults -/
namespace RK
open PySem L2
structure Gd (n : Nat) (J M : Nat → Nat → Nat) (z o : Nat) : Prop where
  zn : z < n
  on : o < n
  jn : ∀ a b, a < n → b < n → J a b < n
  mn : ∀ a b, a < n → b < n → M a b < n
  nj : ∀ a, a < n → J z a = a ∧ J a z = a ∧ M z a = z ∧ M a z = z
  om : ∀ a, a < n → M o a = a ∧ M a o = a
  id : ∀ a, a < n → J a a = a
  sw : ∀ a b, a < n → b < n → J a b = J b a
  ja : ∀ a b c, a < n → b < n → c < n → J (J a b) c = J a (J b c)
  ma : ∀ a b c, a < n → b < n → c < n → M (M a b) c = M a (M b c)
  ds : ∀ a b c, a < n → b < n → c < n → M a (J b c) = J (M a b) (M a c) ∧ M (J b c) a = J (M b a) (M c a)
  ne : z ≠ o
theorem Gd.rest {n : Nat} {J M : Nat → Nat → Nat} {z o : Nat} (h : Gd n J M z o) : restF n J M z o = none := by
  unfold restF
  have e1 : noneF n J M z = none := fnd_none fun a ha => if_pos (h.nj a ha)
  have e2 : oneF n M o = none := fnd_none fun a ha => if_pos (h.om a ha)
  have e3 : idleF n J = none := fnd_none fun a ha => if_pos (h.id a ha)
  have e4 : swapF n J = none := fnd_none fun a ha => fnd_none fun b hb => if_pos (h.sw a b ha hb)
  have e5 : groupF "join" n J = none := fnd_none fun a ha => fnd_none fun b hb => fnd_none fun c hc => if_pos (h.ja a b c ha hb hc)
  have e6 : groupF "product" n M = none := fnd_none fun a ha => fnd_none fun b hb => fnd_none fun c hc => if_pos (h.ma a b c ha hb hc)
  have e7 : overF n J M = none := fnd_none fun a ha => fnd_none fun b hb => fnd_none fun c hc => if_pos (h.ds a b c ha hb hc)
  have e8 : sameF z o = none := if_neg h.ne
  rw [e1, e2, e3, e4, e5, e6, e7, e8]; rfl
theorem of_ite {P : Prop} {inst : Decidable P} {x : Str × Int × Int × Int} (h : (if P then none else some x) = none) : P := by
  split at h
  · assumption
  · cases h
theorem Gd.of_rest {n : Nat} {J M : Nat → Nat → Nat} {z o : Nat} (zn : z < n) (on : o < n) (jn : ∀ a b, a < n → b < n → J a b < n) (mn : ∀ a b, a < n → b < n → M a b < n) (h : restF n J M z o = none) : Gd n J M z o := by
  unfold restF at h
  simp only [Option.or_eq_none_iff] at h
  obtain ⟨h1, h2, h3, h4, h5, h6, h7, h8⟩ := h
  refine ⟨zn, on, jn, mn, fun a ha => of_ite (fnd_all h1 a ha), fun a ha => of_ite (fnd_all h2 a ha), fun a ha => of_ite (fnd_all h3 a ha), fun a b ha hb => of_ite (fnd_all (fnd_all h4 a ha) b hb), fun a b c ha hb hc => of_ite (fnd_all (fnd_all (fnd_all h5 a ha) b hb) c hc), fun a b c ha hb hc => of_ite (fnd_all (fnd_all (fnd_all h6 a ha) b hb) c hc), fun a b c ha hb hc => of_ite (fnd_all (fnd_all (fnd_all h7 a ha) b hb) c hc), fun e => ?_⟩
  unfold sameF at h8
  rw [if_pos e] at h8
  cases h8
/-! chains -/
def cutP (n a b : Nat) : Nat := a + b - (n - 1)
def topP (n a b : Nat) : Nat := if a = n - 1 ∨ b = n - 1 then min a b else 0
def fourP (a b : Nat) : Nat := ([[0, 0, 0, 0], [0, 0, 1, 1], [0, 0, 2, 2], [0, 1, 2, 3]].getD a []).getD b 0
theorem gd_min {n : Nat} (h : 2 ≤ n) : Gd n max min 0 (n - 1) :=
  ⟨by omega, by omega, fun a b ha hb => by omega, fun a b ha hb => by omega, fun a ha => by omega, fun a ha => by omega, fun a ha => by omega, fun a b ha hb => by omega, fun a b c ha hb hc => by omega, fun a b c ha hb hc => by omega, fun a b c ha hb hc => by omega, by omega⟩
theorem gd_cut {n : Nat} (h : 2 ≤ n) : Gd n max (cutP n) 0 (n - 1) := by
  unfold cutP
  exact ⟨by omega, by omega, fun a b ha hb => by omega, fun a b ha hb => by omega, fun a ha => by omega, fun a ha => by omega, fun a ha => by omega, fun a b ha hb => by omega, fun a b c ha hb hc => by omega, fun a b c ha hb hc => by omega, fun a b c ha hb hc => by omega, by omega⟩
theorem top_l {n b : Nat} (hb : b < n) : topP n (n - 1) b = b := by unfold topP; rw [if_pos (.inl rfl)]; omega
theorem top_r {n a : Nat} (ha : a < n) : topP n a (n - 1) = a := by unfold topP; rw [if_pos (.inr rfl)]; omega
theorem top_0 {n a b : Nat} (ha : a ≠ n - 1) (hb : b ≠ n - 1) : topP n a b = 0 := by unfold topP; rw [if_neg (fun z => z.elim ha hb)]
theorem top_lt {n a b : Nat} (ha : a < n) : topP n a b < n := by unfold topP; split <;> omega
theorem top_max {n a b c : Nat} (ha : a < n) (hb : b < n) (hc : c < n) : topP n a (max b c) = max (topP n a b) (topP n a c) := by
  by_cases h1 : a = n - 1
  · subst h1; rw [top_l hb, top_l hc, top_l (by omega)]
  · by_cases h2 : b = n - 1
    · subst h2
      rw [show max (n - 1) c = n - 1 by omega, top_r ha]
      by_cases h3 : c = n - 1
      · subst h3; rw [top_r ha]; omega
      · rw [top_0 h1 h3]; omega
    · rw [top_0 h1 h2]
      by_cases h3 : c = n - 1
      · subst h3; rw [show max b (n - 1) = n - 1 by omega, top_r ha]; omega
      · rw [top_0 h1 h3, top_0 h1 (by omega)]; rfl
theorem top_comm {n a b : Nat} : topP n a b = topP n b a := by
  unfold topP
  by_cases h : a = n - 1 ∨ b = n - 1
  · rw [if_pos h, if_pos h.symm, Nat.min_comm]
  · rw [if_neg h, if_neg fun z => h z.symm]
theorem gd_top {n : Nat} (h : 2 ≤ n) : Gd n max (topP n) 0 (n - 1) := by
  have t0 : (0 : Nat) ≠ n - 1 := by omega
  have z0 : ∀ a, topP n 0 a = 0 := fun a => by unfold topP; split <;> omega
  have zr : ∀ a, topP n a 0 = 0 := fun a => by rw [top_comm]; exact z0 a
  refine ⟨by omega, by omega, fun a b ha hb => by omega, fun a b ha hb => top_lt ha, fun a ha => ⟨by omega, by omega, z0 a, zr a⟩, fun a ha => ⟨top_l ha, top_r ha⟩, fun a ha => by omega, fun a b ha hb => by omega, fun a b c ha hb hc => by omega, fun a b c ha hb hc => ?_, fun a b c ha hb hc => ⟨top_max ha hb hc, ?_⟩, by omega⟩
  · by_cases h1 : a = n - 1
    · subst h1; rw [top_l hb, top_l (top_lt hb)]
    · by_cases h2 : b = n - 1
      · subst h2; rw [top_r ha, top_l hc]
      · by_cases h3 : c = n - 1
        · subst h3; rw [top_r hb, top_r (top_lt ha)]
        · rw [top_0 h1 h2, top_0 h2 h3, z0, zr]
  · rw [top_comm, top_max ha hb hc, top_comm (a := a) (b := b), top_comm (a := a) (b := c)]
theorem gd_four : Gd 4 max fourP 0 3 :=
  .of_rest (by omega) (by omega) (fun a b ha hb => by omega) (fun a b ha hb => (by decide : ∀ a, a < 4 → ∀ b, b < 4 → fourP a b < 4) a ha b hb) (by decide +kernel)
/-! turned, named anew, beside -/
theorem Gd.turned {n : Nat} {J M : Nat → Nat → Nat} {z o : Nat} (h : Gd n J M z o) : Gd n J (fun a b => M b a) z o :=
  ⟨h.zn, h.on, h.jn, fun a b ha hb => h.mn b a hb ha, fun a ha => ⟨(h.nj a ha).1, (h.nj a ha).2.1, (h.nj a ha).2.2.2, (h.nj a ha).2.2.1⟩, fun a ha => ⟨(h.om a ha).2, (h.om a ha).1⟩, h.id, h.sw, h.ja,
    fun a b c ha hb hc => (h.ma c b a hc hb ha).symm, fun a b c ha hb hc => ⟨(h.ds a b c ha hb hc).2, (h.ds a b c ha hb hc).1⟩, h.ne⟩
/-- σ and τ are each other's way back -/
structure Bij (n : Nat) (σ τ : Nat → Nat) : Prop where
  sn : ∀ a, a < n → σ a < n
  tn : ∀ a, a < n → τ a < n
  ts : ∀ a, a < n → τ (σ a) = a
  st : ∀ a, a < n → σ (τ a) = a
def ren (σ τ : Nat → Nat) (J : Nat → Nat → Nat) (a b : Nat) : Nat := σ (J (τ a) (τ b))
theorem Gd.renamed {n : Nat} {J M : Nat → Nat → Nat} {z o : Nat} {σ τ : Nat → Nat} (h : Gd n J M z o) (b : Bij n σ τ) : Gd n (ren σ τ J) (ren σ τ M) (σ z) (σ o) := by
  have J' := fun a b' ha hb => b.ts (J a b') (h.jn a b' ha hb)
  have M' := fun a b' ha hb => b.ts (M a b') (h.mn a b' ha hb)
  unfold ren
  refine ⟨b.sn z h.zn, b.sn o h.on, fun x y hx hy => b.sn _ (h.jn _ _ (b.tn x hx) (b.tn y hy)), fun x y hx hy => b.sn _ (h.mn _ _ (b.tn x hx) (b.tn y hy)), fun x hx => ?_, fun x hx => ?_, fun x hx => ?_, fun x y hx hy => ?_, fun x y w hx hy hw => ?_, fun x y w hx hy hw => ?_, fun x y w hx hy hw => ?_, fun e => ?_⟩
  · obtain ⟨h1, h2, h3, h4⟩ := h.nj _ (b.tn x hx)
    rw [b.ts z h.zn, h1, h2, h3, h4]
    exact ⟨b.st x hx, b.st x hx, rfl, rfl⟩
  · obtain ⟨h1, h2⟩ := h.om _ (b.tn x hx)
    rw [b.ts o h.on, h1, h2]
    exact ⟨b.st x hx, b.st x hx⟩
  · rw [h.id _ (b.tn x hx), b.st x hx]
  · rw [h.sw _ _ (b.tn x hx) (b.tn y hy)]
  · rw [J' _ _ (b.tn x hx) (b.tn y hy), J' _ _ (b.tn y hy) (b.tn w hw), h.ja _ _ _ (b.tn x hx) (b.tn y hy) (b.tn w hw)]
  · rw [M' _ _ (b.tn x hx) (b.tn y hy), M' _ _ (b.tn y hy) (b.tn w hw), h.ma _ _ _ (b.tn x hx) (b.tn y hy) (b.tn w hw)]
  · obtain ⟨h1, h2⟩ := h.ds _ _ _ (b.tn x hx) (b.tn y hy) (b.tn w hw)
    rw [J' _ _ (b.tn y hy) (b.tn w hw), M' _ _ (b.tn x hx) (b.tn y hy), M' _ _ (b.tn x hx) (b.tn w hw), M' _ _ (b.tn y hy) (b.tn x hx), M' _ _ (b.tn w hw) (b.tn x hx), h1, h2]
    exact ⟨rfl, rfl⟩
  · have := congrArg τ e
    rw [b.ts z h.zn, b.ts o h.on] at this
    exact h.ne this
def bes (m : Nat) (f g : Nat → Nat → Nat) (a b : Nat) : Nat := f (a / m) (b / m) * m + g (a % m) (b % m)
theorem bes_lt {n m x y : Nat} (hx : x < n) (hy : y < m) : x * m + y < n * m := by
  have : (x + 1) * m ≤ n * m := Nat.mul_le_mul_right m hx
  rw [Nat.add_mul, Nat.one_mul] at this
  omega
theorem bes_div {m x y : Nat} (hy : y < m) : (x * m + y) / m = x := by
  rw [Nat.add_comm, Nat.add_mul_div_right _ _ (by omega), Nat.div_eq_of_lt hy, Nat.zero_add]
theorem bes_mod {m x y : Nat} (hy : y < m) : (x * m + y) % m = y := by
  rw [Nat.add_comm, Nat.add_mul_mod_self_right, Nat.mod_eq_of_lt hy]
theorem Gd.beside {n m : Nat} {J M J' M' : Nat → Nat → Nat} {z o z' o' : Nat} (h : Gd n J M z o) (g : Gd m J' M' z' o') : Gd (n * m) (bes m J J') (bes m M M') (z * m + z') (o * m + o') := by
  have m0 : 0 < m := Nat.lt_of_le_of_lt (Nat.zero_le _) g.zn
  have q : ∀ {a : Nat}, a < n * m → a / m < n := fun ha => Nat.div_lt_of_lt_mul (by rw [Nat.mul_comm]; exact ha)
  have r : ∀ {a : Nat}, a % m < m := Nat.mod_lt _ m0
  have back : ∀ {a : Nat}, a / m * m + a % m = a := fun {a} => Nat.div_add_mod' a m
  unfold bes
  refine ⟨bes_lt h.zn g.zn, bes_lt h.on g.on, fun a b ha hb => bes_lt (h.jn _ _ (q ha) (q hb)) (g.jn _ _ r r), fun a b ha hb => bes_lt (h.mn _ _ (q ha) (q hb)) (g.mn _ _ r r), fun a ha => ?_, fun a ha => ?_, fun a ha => ?_, fun a b ha hb => ?_, fun a b c ha hb hc => ?_, fun a b c ha hb hc => ?_, fun a b c ha hb hc => ?_, fun e => ?_⟩
  · obtain ⟨h1, h2, h3, h4⟩ := h.nj _ (q ha)
    obtain ⟨g1, g2, g3, g4⟩ := g.nj (a % m) r
    rw [bes_div g.zn, bes_mod g.zn, h1, h2, h3, h4, g1, g2, g3, g4]
    exact ⟨back, back, rfl, rfl⟩
  · obtain ⟨h1, h2⟩ := h.om _ (q ha)
    obtain ⟨g1, g2⟩ := g.om (a % m) r
    rw [bes_div g.on, bes_mod g.on, h1, h2, g1, g2]
    exact ⟨back, back⟩
  · rw [h.id _ (q ha), g.id (a % m) r]; exact back
  · rw [h.sw _ _ (q ha) (q hb), g.sw (a % m) (b % m) r r]
  · rw [bes_div (g.jn _ _ r r), bes_mod (g.jn _ _ r r), bes_div (g.jn _ _ r r), bes_mod (g.jn _ _ r r), h.ja _ _ _ (q ha) (q hb) (q hc), g.ja (a % m) (b % m) (c % m) r r r]
  · rw [bes_div (g.mn _ _ r r), bes_mod (g.mn _ _ r r), bes_div (g.mn _ _ r r), bes_mod (g.mn _ _ r r), h.ma _ _ _ (q ha) (q hb) (q hc), g.ma (a % m) (b % m) (c % m) r r r]
  · obtain ⟨h1, h2⟩ := h.ds _ _ _ (q ha) (q hb) (q hc)
    obtain ⟨g1, g2⟩ := g.ds (a % m) (b % m) (c % m) r r r
    rw [bes_div (g.jn _ _ r r), bes_mod (g.jn _ _ r r), bes_div (g.mn _ _ r r), bes_mod (g.mn _ _ r r), bes_div (g.mn _ _ r r), bes_mod (g.mn _ _ r r), bes_div (g.mn _ _ r r), bes_mod (g.mn _ _ r r), bes_div (g.mn _ _ r r), bes_mod (g.mn _ _ r r), h1, h2, g1, g2]
    exact ⟨rfl, rfl⟩
  · have := congrArg (· / m) e
    simp only [bes_div g.zn, bes_div g.on] at this
    exact h.ne this
/-! lots -/
def Lb (n : Nat) (P : Nat → Nat → Nat) (a b z : Nat) : Prop := ∃ x y, x < n ∧ y < n ∧ a.testBit x = true ∧ b.testBit y = true ∧ P x y = z
def lotP (n : Nat) (P : Nat → Nat → Nat) (a b : Nat) : Nat := ((List.range n).flatMap fun x => (List.range n).map fun y => (x, y)).foldl (fun f p => if a.testBit p.1 && b.testBit p.2 then f ||| 2 ^ P p.1 p.2 else f) 0
theorem fold_bit {l : List (Nat × Nat)} {a b z : Nat} {P : Nat → Nat → Nat} : ∀ {f : Nat}, (l.foldl (fun f p => if a.testBit p.1 && b.testBit p.2 then f ||| 2 ^ P p.1 p.2 else f) f).testBit z = true ↔ f.testBit z = true ∨ ∃ p ∈ l, a.testBit p.1 = true ∧ b.testBit p.2 = true ∧ P p.1 p.2 = z := by
  induction l with
  | nil => intro f; simp
  | cons p l ih =>
    intro f
    rw [List.foldl_cons, ih]
    by_cases c : (a.testBit p.1 && b.testBit p.2) = true
    · rw [if_pos c, Nat.testBit_or, Nat.testBit_two_pow, Bool.or_eq_true, decide_eq_true_eq]
      rw [Bool.and_eq_true] at c
      constructor
      · rintro ((h | h) | ⟨q, m, h⟩)
        · exact .inl h
        · exact .inr ⟨p, List.mem_cons_self .., c.1, c.2, h⟩
        · exact .inr ⟨q, List.mem_cons_of_mem _ m, h⟩
      · rintro (h | ⟨q, m, h⟩)
        · exact .inl (.inl h)
        · rcases List.mem_cons.mp m with rfl | m
          · exact .inl (.inr h.2.2)
          · exact .inr ⟨q, m, h⟩
    · rw [if_neg c]
      rw [Bool.and_eq_true] at c
      constructor
      · rintro (h | ⟨q, m, h⟩)
        · exact .inl h
        · exact .inr ⟨q, List.mem_cons_of_mem _ m, h⟩
      · rintro (h | ⟨q, m, h⟩)
        · exact .inl h
        · rcases List.mem_cons.mp m with rfl | m
          · exact absurd ⟨h.1, h.2.1⟩ c
          · exact .inr ⟨q, m, h⟩
theorem lot_bit {n : Nat} {P : Nat → Nat → Nat} {a b z : Nat} : (lotP n P a b).testBit z = true ↔ Lb n P a b z := by
  unfold lotP Lb
  rw [fold_bit]
  constructor
  · rintro (h | ⟨p, m, h⟩)
    · simp at h
    · obtain ⟨x, mx, m⟩ := List.mem_flatMap.mp m
      obtain ⟨y, my, rfl⟩ := List.mem_map.mp m
      exact ⟨x, y, List.mem_range.mp mx, List.mem_range.mp my, h⟩
  · rintro ⟨x, y, hx, hy, h⟩
    exact .inr ⟨(x, y), List.mem_flatMap.mpr ⟨x, List.mem_range.mpr hx, List.mem_map.mpr ⟨y, List.mem_range.mpr hy, rfl⟩⟩, h⟩
theorem bits_eq {a b : Nat} (h : ∀ z, a.testBit z = true ↔ b.testBit z = true) : a = b := Nat.eq_of_testBit_eq fun z => by
  have := h z
  cases ha : a.testBit z <;> cases hb : b.testBit z <;> rw [ha, hb] at this <;> simp at this ⊢
theorem bit_lt {a n x : Nat} (h : a < 2 ^ n) (e : a.testBit x = true) : x < n := Nat.lt_of_not_le fun c => by
  rw [Nat.testBit_lt_two_pow (Nat.lt_of_lt_of_le h (Nat.pow_le_pow_right (by omega) c))] at e
  cases e
theorem lt_bits {a n : Nat} (h : ∀ x, a.testBit x = true → x < n) : a < 2 ^ n := Nat.lt_pow_two_of_testBit a fun i hi => by
  cases e : a.testBit i with
  | false => rfl
  | true => have := h i e; omega
/-- products of things: one is neutral, brackets don't count -/
structure Mo (n : Nat) (P : Nat → Nat → Nat) (o : Nat) : Prop where
  on : o < n
  pn : ∀ a b, a < n → b < n → P a b < n
  om : ∀ a, a < n → P o a = a ∧ P a o = a
  as : ∀ a b c, a < n → b < n → c < n → P (P a b) c = P a (P b c)
theorem lot_lt {n : Nat} {P : Nat → Nat → Nat} {a b : Nat} (pn : ∀ a b, a < n → b < n → P a b < n) : lotP n P a b < 2 ^ n := lt_bits fun z h => by
  obtain ⟨x, y, hx, hy, _, _, rfl⟩ := lot_bit.mp h
  exact pn x y hx hy
theorem Mo.lots {n : Nat} {P : Nat → Nat → Nat} {o : Nat} (h : Mo n P o) : Gd (2 ^ n) (fun a b => a ||| b) (lotP n P) 0 (2 ^ o) := by
  have z0 : ∀ x, (0 : Nat).testBit x = true → False := fun x e => by simp at e
  have p0 : ∀ x, (2 ^ o).testBit x = true ↔ o = x := fun x => by rw [Nat.testBit_two_pow, decide_eq_true_eq]
  have o0 : ∀ {a b x : Nat}, (a ||| b).testBit x = true ↔ a.testBit x = true ∨ b.testBit x = true := fun {a b x} => by rw [Nat.testBit_or, Bool.or_eq_true]
  refine ⟨Nat.two_pow_pos _, Nat.pow_lt_pow_right (by omega) h.on, fun a b ha hb => Nat.or_lt_two_pow ha hb, fun a b _ _ => lot_lt h.pn, fun a ha => ⟨Nat.zero_or a, Nat.or_zero a, bits_eq fun z => ?_, bits_eq fun z => ?_⟩, fun a ha => ⟨bits_eq fun z => ?_, bits_eq fun z => ?_⟩, fun a _ => Nat.or_self a, fun a b _ _ => Nat.or_comm a b, fun a b c _ _ _ => Nat.or_assoc a b c, fun a b c ha hb hc => bits_eq fun z => ?_, fun a b c ha hb hc => ⟨bits_eq fun z => ?_, bits_eq fun z => ?_⟩, fun e => ?_⟩
  · exact ⟨fun e => by obtain ⟨x, y, _, _, e, _⟩ := lot_bit.mp e; exact (z0 _ e).elim, fun e => (z0 _ e).elim⟩
  · exact ⟨fun e => by obtain ⟨x, y, _, _, _, e, _⟩ := lot_bit.mp e; exact (z0 _ e).elim, fun e => (z0 _ e).elim⟩
  · rw [lot_bit]
    exact ⟨fun ⟨x, y, hx, hy, e1, e2, e3⟩ => by rw [← (p0 x).mp e1, (h.om y hy).1] at e3; rw [← e3]; exact e2, fun e => ⟨o, z, h.on, bit_lt ha e, (p0 o).mpr rfl, e, (h.om z (bit_lt ha e)).1⟩⟩
  · rw [lot_bit]
    exact ⟨fun ⟨x, y, hx, hy, e1, e2, e3⟩ => by rw [← (p0 y).mp e2, (h.om x hx).2] at e3; rw [← e3]; exact e1, fun e => ⟨z, o, bit_lt ha e, h.on, e, (p0 o).mpr rfl, (h.om z (bit_lt ha e)).2⟩⟩
  · rw [lot_bit, lot_bit]
    constructor
    · rintro ⟨xy, w, h1, h2, e1, e2, e3⟩
      obtain ⟨x, y, hx, hy, f1, f2, f3⟩ := lot_bit.mp e1
      exact ⟨x, P y w, hx, h.pn y w hy h2, f1, lot_bit.mpr ⟨y, w, hy, h2, f2, e2, rfl⟩, by rw [← h.as x y w hx hy h2, f3]; exact e3⟩
    · rintro ⟨x, yw, h1, h2, e1, e2, e3⟩
      obtain ⟨y, w, hy, hw, f1, f2, f3⟩ := lot_bit.mp e2
      exact ⟨P x y, w, h.pn x y h1 hy, hw, lot_bit.mpr ⟨x, y, h1, hy, e1, f1, rfl⟩, f2, by rw [h.as x y w h1 hy hw, f3]; exact e3⟩
  · rw [lot_bit, o0, lot_bit, lot_bit]
    constructor
    · rintro ⟨x, y, hx, hy, e1, e2, e3⟩
      exact (o0.mp e2).elim (fun e => .inl ⟨x, y, hx, hy, e1, e, e3⟩) fun e => .inr ⟨x, y, hx, hy, e1, e, e3⟩
    · rintro (⟨x, y, hx, hy, e1, e2, e3⟩ | ⟨x, y, hx, hy, e1, e2, e3⟩)
      · exact ⟨x, y, hx, hy, e1, o0.mpr (.inl e2), e3⟩
      · exact ⟨x, y, hx, hy, e1, o0.mpr (.inr e2), e3⟩
  · rw [lot_bit, o0, lot_bit, lot_bit]
    constructor
    · rintro ⟨x, y, hx, hy, e1, e2, e3⟩
      exact (o0.mp e1).elim (fun e => .inl ⟨x, y, hx, hy, e, e2, e3⟩) fun e => .inr ⟨x, y, hx, hy, e, e2, e3⟩
    · rintro (⟨x, y, hx, hy, e1, e2, e3⟩ | ⟨x, y, hx, hy, e1, e2, e3⟩)
      · exact ⟨x, y, hx, hy, o0.mpr (.inl e1), e2, e3⟩
      · exact ⟨x, y, hx, hy, o0.mpr (.inr e1), e2, e3⟩
  · have := Nat.two_pow_pos o
    omega
end RK

/-! ### a method of a list, inside a comprehension -/
namespace OQ
open PySem L2 PySem.Spec PyProof.Rows
theorem mt_indexK {X : Cx} (K : PySem.W.Frag) (h : X.K = K := by rfl) : MtR X "list.index" (rIndex K) := h ▸ mt_index
theorem bmK {X : Cx} (K : PySem.W.Frag) {e : Expr} {T : String} {r : V → List V → Hp → VK → Prop} {to : TE} {t : TA} (hp : PE X e (tBM X.K T r to t)) (h : X.K = K := by rfl) : PE X e (tBM K T r to t) := h ▸ hp
end OQ

/-! ### the data of a thing, dicts among them at any depth -/
namespace OQ
open PySem L2 PySem.Spec PyProof.Rows
mutual
inductive Dqd (K : PySem.W.Frag) (H : Hp) : V → PyData → Prop
  | non : Dqd K H .non .none
  | bl (b : Bool) : Dqd K H (.bl b) (.bool b)
  | int (i : Int) : Dqd K H (.int i) (.int i)
  | str (x : Str) : Dqd K H (.str x) (.str x)
  | lst {a : Addr} {xs : List V} {ds : List PyData} : SqL K H a xs → DqdAll K H xs ds → Dqd K H (.ref a) (.list ds)
  | tup {a : Addr} {xs : List V} {ds : List PyData} : SqT K H a xs → DqdAll K H xs ds → Dqd K H (.ref a) (.tuple ds)
  | dK {a : Addr} {kvs : List (Key × V)} : H a = some (.dK kvs) → Dqd K H (.ref a) (.dict [])
inductive DqdAll (K : PySem.W.Frag) (H : Hp) : List V → List PyData → Prop
  | nil : DqdAll K H [] []
  | cons {v : V} {vs : List V} {d : PyData} {ds : List PyData} : Dqd K H v d → DqdAll K H vs ds → DqdAll K H (v :: vs) (d :: ds)
end
mutual
theorem dqd_of {K : PySem.W.Frag} {H : Hp} : ∀ {v : V} {d : PyData}, Dp K H v d → Dqd K H v d
  | _, _, .non => .non
  | _, _, .bl b => .bl b
  | _, _, .int i => .int i
  | _, _, .str x => .str x
  | _, _, .lst s a => .lst s (dqdAll_of a)
  | _, _, .tup s a => .tup s (dqdAll_of a)
theorem dqdAll_of {K : PySem.W.Frag} {H : Hp} : ∀ {vs : List V} {ds : List PyData}, DpAll K H vs ds → DqdAll K H vs ds
  | _, _, .nil => .nil
  | _, _, .cons h t => .cons (dqd_of h) (dqdAll_of t)
end
mutual
theorem Dqd.same {K : PySem.W.Frag} {H H' : Hp} (s : Same H H') : ∀ {v : V} {d : PyData}, Dqd K H v d → Dqd K H' v d
  | _, _, .non => .non
  | _, _, .bl b => .bl b
  | _, _, .int i => .int i
  | _, _, .str x => .str x
  | _, _, .lst q a => .lst (Same.seq s q) (DqdAll.same s a)
  | _, _, .tup q a => .tup (sqT_same q s) (DqdAll.same s a)
  | _, _, .dK e => .dK (s _ _ e)
theorem DqdAll.same {K : PySem.W.Frag} {H H' : Hp} (s : Same H H') : ∀ {vs : List V} {ds : List PyData}, DqdAll K H vs ds → DqdAll K H' vs ds
  | _, _, .nil => .nil
  | _, _, .cons h t => .cons (Dqd.same s h) (DqdAll.same s t)
end
theorem dqd_row {K : PySem.W.Frag} {H : Hp} {v : V} {d : PyData} {ds : List PyData} (h : Dqd K H v d) (e : RK.rowsOf d = some ds) : ∃ a xs, v = .ref a ∧ SeqAt K H a xs ∧ DqdAll K H xs ds := by
  cases h with
  | lst q a => cases e; exact ⟨_, _, rfl, .inl q, a⟩
  | tup q a => cases e; exact ⟨_, _, rfl, .inr q, a⟩
  | non => cases e
  | bl b => cases e
  | int i => cases e
  | str x => cases e
  | dK q => cases e
theorem dqdAll_len {K : PySem.W.Frag} {H : Hp} : ∀ {vs : List V} {ds : List PyData}, DqdAll K H vs ds → vs.length = ds.length
  | _, _, .nil => rfl
  | _, _, .cons _ t => by rw [List.length_cons, List.length_cons, dqdAll_len t]
/-- rows of numbers below n are data without dicts -/
theorem dqd_below {K : PySem.W.Frag} {H : Hp} {n : Nat} {v : V} {d : PyData} (h : Dqd K H v d) (b : RK.belowB n d = true) : Dp K H v d := by
  cases h with
  | int i => exact .int i
  | non => cases b
  | bl c => cases b
  | str x => cases b
  | lst q a => cases b
  | tup q a => cases b
  | dK q => cases b
theorem dqdAll_dp {K : PySem.W.Frag} {H : Hp} {P : PyData → Bool} (step : ∀ {v d}, Dqd K H v d → P d = true → Dp K H v d) : ∀ {vs : List V} {ds : List PyData}, DqdAll K H vs ds → ds.all P = true → DpAll K H vs ds
  | _, _, .nil, _ => .nil
  | _, _, .cons h t, e => by
    rw [List.all_cons, Bool.and_eq_true] at e
    exact .cons (step h e.1) (dqdAll_dp step t e.2)
theorem dqd_rows {K : PySem.W.Frag} {H : Hp} {P : PyData → Bool} (step : ∀ {v d}, Dqd K H v d → P d = true → Dp K H v d) {v : V} {d : PyData} {ds : List PyData} (h : Dqd K H v d) (e : RK.rowsOf d = some ds) (a : ds.all P = true) : Dp K H v d := by
  cases h with
  | lst q t => cases e; exact .lst q (dqdAll_dp step t a)
  | tup q t => cases e; exact .tup q (dqdAll_dp step t a)
  | non => cases e
  | bl b => cases e
  | int i => cases e
  | str x => cases e
  | dK q => cases e
theorem dqd_side {K : PySem.W.Frag} {H : Hp} {n : Nat} {v : V} {d : PyData} (h : Dqd K H v d) (b : RK.sideB n d = true) : Dp K H v d := by
  unfold RK.sideB at b
  cases e : RK.rowsOf d with
  | none => rw [e] at b; cases b
  | some ds =>
    rw [e] at b
    dsimp only at b
    rw [Bool.and_eq_true] at b
    exact dqd_rows (fun h b => dqd_below h b) h e b.2
theorem dqd_square {K : PySem.W.Frag} {H : Hp} {n : Nat} {v : V} {d : PyData} (h : Dqd K H v d) (b : RK.squareB n d = true) : Dp K H v d := by
  unfold RK.squareB at b
  cases e : RK.rowsOf d with
  | none => rw [e] at b; cases b
  | some ds =>
    rw [e] at b
    dsimp only at b
    rw [Bool.and_eq_true] at b
    exact dqd_rows (fun h b => dqd_side h b) h e b.2
theorem dqdAll_get {K : PySem.W.Frag} {H : Hp} : ∀ {vs : List V} {ds : List PyData}, DqdAll K H vs ds → ∀ {i : Nat} {v : V}, vs[i]? = some v → ∃ d, ds[i]? = some d ∧ Dqd K H v d
  | _, _, .nil, i, v, e => by simp at e
  | _, _, .cons (d := d) h1 h2, i, v, e => by
    cases i with
    | zero => simp at e; subst e; exact ⟨d, rfl, h1⟩
    | succ i => simp at e; obtain ⟨d', q1, q2⟩ := dqdAll_get h2 e; exact ⟨d', by simpa using q1, q2⟩
theorem kitA_seq {K : PySem.W.Frag} {t : String} (h1 : PySem.W.kitOne K (.type t) (.type "list") = some false) (h2 : PySem.W.kitOne K (.type t) (.type "tuple") = some false) : PySem.W.kitAny K (.type t) [.type "list", .type "tuple"] = some false := by
  unfold PySem.W.kitAny
  rw [h1]
  unfold PySem.W.kitAny
  rw [h2]
  rfl
theorem kitAl {K : PySem.W.Frag} : PySem.W.kitAny K (.type "list") [.type "list", .type "tuple"] = some true := by
  unfold PySem.W.kitAny
  rw [kit_ty (r := true) (by decide +kernel)]
theorem kitAt {K : PySem.W.Frag} : PySem.W.kitAny K (.type "tuple") [.type "list", .type "tuple"] = some true := by
  unfold PySem.W.kitAny
  rw [kit_ty (r := false) (by decide +kernel)]
  unfold PySem.W.kitAny
  rw [kit_ty (r := true) (by decide +kernel)]
theorem dqd_isInt {K : PySem.W.Frag} {H : Hp} {d : PyData} {v : V} (h : Dqd K H v d) : ∃ (t : Value) (b1 b2 : Bool), TyX K H v t ∧ PySem.W.kitOne K t (.type "int") = some b1 ∧ PySem.W.kitOne K t (.type "bool") = some b2 ∧ RK.intB d = (b1 && !b2) := by
  have seq : ∀ {a : Addr} {xs : List V} {d : PyData}, SeqAt K H a xs → RK.intB d = false → ∃ (t : Value) (b1 b2 : Bool), TyX K H (.ref a) t ∧ PySem.W.kitOne K t (.type "int") = some b1 ∧ PySem.W.kitOne K t (.type "bool") = some b2 ∧ RK.intB d = (b1 && !b2) := fun q e => by
    obtain ⟨t, ty, z⟩ := SeqAt.ty q
    rcases z with rfl | rfl
    · exact ⟨_, false, false, ty, kit_ty (by decide +kernel), kit_ty (by decide +kernel), e⟩
    · exact ⟨_, false, false, ty, kit_ty (by decide +kernel), kit_ty (by decide +kernel), e⟩
  cases h with
  | non => exact dp_isInt (d := .none) .non
  | bl b => exact dp_isInt (d := .bool b) (.bl b)
  | int i => exact dp_isInt (d := .int i) (.int i)
  | str x => exact dp_isInt (d := .str x) (.str x)
  | lst q a => exact seq (.inl q) rfl
  | tup q a => exact seq (.inr q) rfl
  | dK q => exact ⟨_, false, false, .base (.dK q), kit_ty (by decide +kernel), kit_ty (by decide +kernel), rfl⟩
theorem dqd_isRow {K : PySem.W.Frag} {H : Hp} {d : PyData} {v : V} (h : Dqd K H v d) : ∃ t, TyX K H v t ∧ PySem.W.kitAny K t [.type "list", .type "tuple"] = some (RK.rowsOf d).isSome := by
  cases h with
  | non => exact dp_isRow (d := .none) .non
  | bl b => exact dp_isRow (d := .bool b) (.bl b)
  | int i => exact dp_isRow (d := .int i) (.int i)
  | str x => exact dp_isRow (d := .str x) (.str x)
  | lst q a =>
    obtain ⟨t, ty, z⟩ := SeqAt.ty (.inl q)
    refine ⟨t, ty, ?_⟩
    rcases z with rfl | rfl
    · exact kitAl
    · exact kitAt
  | tup q a =>
    obtain ⟨t, ty, z⟩ := SeqAt.ty (.inr q)
    refine ⟨t, ty, ?_⟩
    rcases z with rfl | rfl
    · exact kitAl
    · exact kitAt
  | dK q => exact dq_isRow (d := .dict []) (.inr ⟨rfl, _, _, rfl, q⟩)
theorem dqd_tab {K : PySem.W.Frag} {H : Hp} {d : PyData} {v : V} {n : Nat} (h : Dqd K H v d) (e : RK.squareB n d = true) : ∃ a, v = .ref a ∧ TabX K H a n (RK.tabf d) ∧ ∀ i j, i < n → j < n → RK.tabf d i j < n :=
  dp_tab (dqd_square h e) e
end OQ

/-! ### try with clauses `except C as n` and `except C`, as many as there are -/
namespace OM
open PySem L2 PySem.Spec PyProof.Rows
/-- a clause: its class, the slot of its name, what its suite does -/
structure Cl where
  cl : Value
  sl : Option Nat
  su : Addr → Value → Option Addr → TS
/-- the ends of a suite whose name, in slot i, goes behind it -/
def Drop (i : Nat) (D : Ends) : Ends :=
  { nx := fun τ G => D.nx (τ.set i none) G, rt := D.rt, bk := fun τ G => D.bk (τ.set i none) G, ct := fun τ G => D.ct (τ.set i none) G }
/-- .. of a suite that has a name, or none -/
def DropO : Option Nat → Ends → Ends
  | some i, D => Drop i D
  | none, D => D
def setO (e : Addr) : Option Nat → L2.St → L2.St
  | some i, τ => τ.set i (some (.ref e))
  | none, τ => τ
/-- what clauses wish of an error: the first one of its class serves -/
def wCls (K : PySem.W.Frag) (W : WX) (D : Ends) : List Cl → WX
  | [] => W
  | k :: r => fun C d τ G => (PySem.W.exmOne K C k.cl = some true ∧ ∀ e, G e = none → k.su e C d (DropO k.sl D) (setO e k.sl τ) G) ∨ (PySem.W.exmOne K C k.cl = some false ∧ wCls K W D r C d τ G)
/-- clauses as they stand in the text -/
inductive Cls (X : Cx) : List ExceptHandler → List Cl → Prop
  | nil : Cls X [] []
  | cons {x n : Str} {p q : Pos} {b : Stmt} {bs : List Stmt} {r : List ExceptHandler} {ks : List Cl} (k : Cl) (i : Nat) (isl : k.sl = some i) (slot : X.N[i]? = some n) (own : X.env.kindOf n = some .local) (named : Names X x k.cl)
      (suite : ∀ (e : Addr) (o : Obj) (C : Value) (d : Option Addr) (pn : List (Addr × Obj)), Zc C d o → (∃ vs, o.data = .fields vs) → PSs (X.suite e ((e, o) :: pn)) (b :: bs) (k.su e C d)) (rest : Cls X r ks) :
      Cls X (.ExceptHandler (some (.Name x p)) (some n) (b :: bs) q :: r) (k :: ks)
  | bare {x : Str} {p q : Pos} {b : Stmt} {bs : List Stmt} {r : List ExceptHandler} {ks : List Cl} (k : Cl) (isl : k.sl = none) (named : Names X x k.cl)
      (suite : ∀ (e : Addr) (o : Obj) (C : Value) (d : Option Addr) (pn : List (Addr × Obj)), Zc C d o → (∃ vs, o.data = .fields vs) → PSs (X.suite e ((e, o) :: pn)) (b :: bs) (k.su e C d)) (rest : Cls X r ks) :
      Cls X (.ExceptHandler (some (.Name x p)) none (b :: bs) q :: r) (k :: ks)
/-- an error that came down in this frame -/
structure Got (X : Cx) (pins : List (Addr × Obj)) (e : Addr) (C : Value) (d : Option Addr) (τ : L2.St) (G : Hp) (B : Heap) (t : Shared) : Prop where
  ok : X.Ok
  fly : HandSPX.FlyingZ B (X.env :: X.outer) e (Zc C d) t.heap
  inv : ∀ g, B.StaysIn g → t.heap.UpToSlots g → Inv X pins τ G { t with heap := g }
  new : G e = none
  off : ∀ W, Takes X W → W C d τ G → ∀ g, t.heap.UpToSlots g → HandSPX.HeldZ B (X.env :: X.outer) e (Zc C d) X.env.locals g → X.xe (.ref e) { t with heap := g }
section
variable {X : Cx} {pins : List (Addr × Obj)} {e : Addr} {C : Value} {d : Option Addr} {τ : L2.St} {G : Hp} {B : Heap} {t : Shared} {D : Ends}
theorem Got.at (hf : X.env.frame = some X.env.locals) (g : Got X pins e C d τ G B t) : ∃ o, t.heap.get? e = some o ∧ Zc C d o ∧ (∃ vs, o.data = .fields vs) ∧ Inv (X.suite e ((e, o) :: (X.pn ++ pins))) [] τ G t := by
  obtain ⟨o, vs, there, zz, flds⟩ := g.fly.there
  have away : ∀ l : List Env, (∀ v ∈ l, v ∈ X.env :: X.outer) → e ∉ l.filterMap (·.frame) := fun l hl m => by
    obtain ⟨v, hv, fv⟩ := List.mem_filterMap.mp m
    have : e ∈ frs (X.env :: X.outer) := List.mem_filterMap.mpr ⟨v, hl v hv, fv⟩
    obtain ⟨_, o', at', no⟩ := (g.fly.2.2.1).mem this
    exact no vs (by rw [there] at at'; cases at'; exact flds)
  refine ⟨o, there, zz, ⟨vs, flds⟩, (g.inv _ g.fly.1 (Heap.UpToSlots.refl _)).suite there flds g.new (fun z => ?_) (fun m => ?_)⟩
  · exact away [X.env] (fun v hv => by rw [List.mem_singleton.mp hv]; exact List.mem_cons_self) (List.mem_filterMap.mpr ⟨X.env, List.mem_singleton.mpr rfl, by rw [hf, z]⟩)
  · exact away X.outer (fun v hv => List.mem_cons_of_mem _ hv) m
/-- no clause is left: it goes on -/
theorem Got.on (hf : X.env.frame = some X.env.locals) (g : Got X pins e C d τ G B t) {W : WX} (tk : Takes X W) (w : W C d τ G) {Q : Flow → Shared → Prop} :
    wpAny (model X.prog X.w) X.A (handleBy (.ref e) X.env []) Q X.xe t := by
  refine wpAny_handleBy_nil ?_
  have leave : wpAny (model X.prog X.w) X.A (setFlight (.ref e) X.env.frame) (fun _ t2 => wpAny (model X.prog X.w) X.A (throw (.ref e) : Sem Flow) Q X.xe t2) X.xe t := by
    rw [hf]
    exact HandSPX.setFlight_upZ g.fly fun g2 held up2 => wpAny_throw (g.off W tk w g2 up2 held)
  obtain ⟨_, _, _, o, vs, tr, _, _, there, _, flds, fst, _⟩ := id g.fly
  unfold PySem.passOn
  refine wpAny_bind (wpAny_field there flds fst ?_)
  rw [if_neg (show ¬ ((Value.ref tr == Value.none) = true) by simp)]
  first
    | exact wpAny_bind (wpAny_pure (wpAny_bind leave))
    | exact wpAny_bind leave
theorem Got.handled (hf : X.env.frame = some X.env.locals) (hN : X.N.Nodup) (g : Got X pins e C d τ G B t) {W : WX} (tk : Takes X W) {hs : List ExceptHandler} {ks : List Cl} (c : Cls X hs ks) :
    wCls X.K W D ks C d τ G → wpAny (model X.prog X.w) X.A (handleBy (.ref e) X.env hs) (SP X pins D) X.xe t := by
  induction c with
  | nil => exact fun w => g.on hf tk w
  | @cons x n p q b bs r ks k i isl slot own named suite rest ih =>
    intro w
    unfold wCls at w
    rw [isl] at w
    obtain ⟨o, there, zz, flds, S⟩ := g.at hf
    refine wpAny_handleBy_cons (codeAny_handlers_test ?_) (fun z => Value.noConfusion z)
    have cls : PySem.W.Looks (model X.prog X.w) t.heap (typeOf (.ref e)) C := fun _ _ _ s' keeps z => wpAny_typeOf_ref (keeps _ _ there) (by rw [zz.1]; exact z)
    have name : ∀ {Q E : Value → Shared → Prop}, Q k.cl t → wpAny (model X.prog X.w) (X.A.mark (some (.ref e))) (eval (.Name x p) X.env) Q E t := by
      intro Q E z
      rcases named with ⟨gl, nd, here | ⟨no, built, nn⟩⟩
      · exact ld_glob (X := X.suite e ((e, o) :: (X.pn ++ pins))) S gl here z nd
      · exact ld_blt (X := X.suite e ((e, o) :: (X.pn ++ pins))) S gl no built z nn nd
    rcases w with ⟨yes, go⟩ | ⟨no, go⟩
    · refine name ((PySem.W.exm_one (M := model X.prog X.w) S.kIn cls yes).here ?_)
      refine codeAny_handlers_suite_as (HandSPX.lands_againZ g.fly fun h2 fly2 up2 => ?_)
      have g2 : Got X pins e C d τ G B { t with heap := h2 } := ⟨g.ok, fly2, fun h3 st up3 => g.inv h3 st (up2.trans up3), g.new, fun W tk w h3 up3 held => g.off W tk w h3 (up2.trans up3) held⟩
      obtain ⟨o2, _, zz2, flds2, S2⟩ := g2.at hf
      refine store_ok (X := X.suite e ((e, o2) :: (X.pn ++ pins))) (v := V.ref e) S2 hN slot (.inl own) rfl (fun t3 S3 => ?_) (.inr own)
      refine wpAny_mono ((suite e o2 C d (X.pn ++ pins) zz2 flds2).run [] t3 _ G _ S3 (go e g.new)) (fun f t4 done => ?_) (fun _ _ z => z.elim)
      rcases f with _ | _ | _ | u
      · obtain ⟨τ4, G4, S4, z⟩ := done
        exact gone_ok (S4.unsuite g.ok) hN slot own fun t5 S5 => ⟨_, G4, S5, z⟩
      · obtain ⟨τ4, G4, S4, z⟩ := done
        exact gone_ok (S4.unsuite g.ok) hN slot own fun t5 S5 => ⟨_, G4, S5, z⟩
      · obtain ⟨τ4, G4, S4, z⟩ := done
        exact gone_ok (S4.unsuite g.ok) hN slot own fun t5 S5 => ⟨_, G4, S5, z⟩
      · obtain ⟨v, τ4, G4, S4, rv, z⟩ := done
        exact gone_ok (S4.unsuite g.ok) hN slot own fun t5 S5 => ⟨v, _, G4, S5, rv, z⟩
    · refine name ((PySem.W.exm_one (M := model X.prog X.w) S.kIn cls no).here ?_)
      exact ih go
  | @bare x p q b bs r ks k isl named suite rest ih =>
    intro w
    unfold wCls at w
    rw [isl] at w
    obtain ⟨o, there, zz, flds, S⟩ := g.at hf
    refine wpAny_handleBy_cons (codeAny_handlers_test ?_) (fun z => Value.noConfusion z)
    have cls : PySem.W.Looks (model X.prog X.w) t.heap (typeOf (.ref e)) C := fun _ _ _ s' keeps z => wpAny_typeOf_ref (keeps _ _ there) (by rw [zz.1]; exact z)
    have name : ∀ {Q E : Value → Shared → Prop}, Q k.cl t → wpAny (model X.prog X.w) (X.A.mark (some (.ref e))) (eval (.Name x p) X.env) Q E t := by
      intro Q E z
      rcases named with ⟨gl, nd, here | ⟨no, built, nn⟩⟩
      · exact ld_glob (X := X.suite e ((e, o) :: (X.pn ++ pins))) S gl here z nd
      · exact ld_blt (X := X.suite e ((e, o) :: (X.pn ++ pins))) S gl no built z nn nd
    rcases w with ⟨yes, go⟩ | ⟨no, go⟩
    · refine name ((PySem.W.exm_one (M := model X.prog X.w) S.kIn cls yes).here ?_)
      refine codeAny_handlers_suite (HandSPX.lands_againZ g.fly fun h2 fly2 up2 => ?_)
      have g2 : Got X pins e C d τ G B { t with heap := h2 } := ⟨g.ok, fly2, fun h3 st up3 => g.inv h3 st (up2.trans up3), g.new, fun W tk w h3 up3 held => g.off W tk w h3 (up2.trans up3) held⟩
      obtain ⟨o2, _, zz2, flds2, S2⟩ := g2.at hf
      refine wpAny_mono ((suite e o2 C d (X.pn ++ pins) zz2 flds2).run [] _ _ G _ S2 (go e g.new)) (fun f t4 done => ?_) (fun _ _ z => z.elim)
      rcases f with _ | _ | _ | u
      · obtain ⟨τ4, G4, S4, z⟩ := done
        exact ⟨_, G4, S4.unsuite g.ok, z⟩
      · obtain ⟨τ4, G4, S4, z⟩ := done
        exact ⟨_, G4, S4.unsuite g.ok, z⟩
      · obtain ⟨τ4, G4, S4, z⟩ := done
        exact ⟨_, G4, S4.unsuite g.ok, z⟩
      · obtain ⟨v, τ4, G4, S4, rv, z⟩ := done
        exact ⟨v, _, G4, S4.unsuite g.ok, rv, z⟩
    · refine name ((PySem.W.exm_one (M := model X.prog X.w) S.kIn cls no).here ?_)
      exact ih go
end
section
variable {X : Cx} {body : List Stmt} {h₀ : ExceptHandler} {hs : List ExceptHandler} {ks : List Cl} {pos : Pos} {tb : WX → TS} {W : WX}
theorem ps_try_cls (st : X.stack = X.env :: X.outer) (hf : X.env.frame = some X.env.locals) (hN : X.N.Nodup) (tk : Takes X W)
    (hb : ∀ (W : WX) (pn : List (Addr × Obj)) (xe : Value → Shared → Prop), Takes (X.tr pn xe) W → PassesOwn (model X.prog X.w) X.A X.env xe → PSs (X.tr pn xe) body (tb W))
    (c : Cls X (h₀ :: hs) ks) : PS X (.Try body (h₀ :: hs) [] [] pos) (fun D σ H => tb (wCls X.K W D ks) D σ H) := by
  refine ⟨fun pins s σ H D I asked => ?_⟩
  let down : Value → Shared → Prop := fun e t => wpAny (model X.prog X.w) X.A (noteFrame e X.env) (fun _ t2 => wpAny (model X.prog X.w) X.A (setFlight e none) (fun _ t3 => wpAny (model X.prog X.w) X.A (handleBy e X.env (h₀ :: hs)) (SP X pins D) X.xe t3) X.xe t2) X.xe t
  have took : Takes (X.tr (X.pn ++ pins) down) (wCls X.K W D ks) := by
    rintro _ t ⟨e, B, t0, pins', τ, G, C, d, rfl, J', apart, up, sky, new, os, bare, w⟩
    have J : Inv X pins τ G t0 := J'.ofTry I.ok
    have sky2 : Sky B (X.env :: X.outer) e (Zc C d) X.env.locals t.heap := st ▸ sky
    refine Sky.land Zc.steady (by rw [I.ok.frames, st]) hf sky2 fun h2 fly up2 => ?_
    refine Got.handled (B := B) (t := { t with heap := h2 }) hf hN ⟨I.ok, fly, fun g kept up3 => J.landed apart kept ((up.trans up2).trans up3) os bare, new, fun V tv v g up3 held => tv _ _ ?_⟩ tk c w
    exact ⟨e, B, t0, pins, τ, G, C, d, rfl, J, apart, (up.trans up2).trans up3, .inr (.inr (st.symm ▸ held)), new, os, bare, v⟩
  refine wpAny_Try_except (wpAny_mono ((hb _ _ down took PassesOwn.looking).run [] s σ H D (I.toTry down) asked) (fun f t done => ?_) (fun _ _ z => z))
  rcases f with _ | _ | _ | u
  · obtain ⟨τ, G, J, z⟩ := done
    exact wpAny_execs_nil ⟨τ, G, J.ofTry I.ok, z⟩
  · obtain ⟨τ, G, J, z⟩ := done
    exact ⟨τ, G, J.ofTry I.ok, z⟩
  · obtain ⟨τ, G, J, z⟩ := done
    exact ⟨τ, G, J.ofTry I.ok, z⟩
  · obtain ⟨v, τ, G, J, rv, z⟩ := done
    exact ⟨v, τ, G, J.ofTry I.ok, rv, z⟩
end
end OM

/-! ### comprehensions with two generators over ranges -/
namespace OM
open PySem L2
theorem c2_range {lo : Int} {n : Nat} {g : TG} {tt : TT} {vs : List Nat} {σ : L2.St} {H0 : Hp} {Qd : Hp → Prop} {B : (Hp → Prop) → L2.St → Hp → Prop} (Pv : Nat → Hp → Prop) (h0 : Pv 0 H0)
    (hs : ∀ i H, i < n → Pv i H → g (.int (lo + i)) (wipe σ vs) H fun σ2 H2 => wipe σ2 vs = wipe σ vs ∧ tt σ2 H2 fun b H3 => if b = true then B (Pv (i + 1)) σ2 H3 else Pv (i + 1) H3) (hd : ∀ H, Pv n H → Qd H) :
    ∃ W : Nat → Nat → Hp → Prop, (∃ m, W 0 m H0) ∧ ∀ i m H, W i m H →
      ((Itr lo n).stop i H ∧ Qd H) ∨ ((Itr lo n).go i H ∧ ∃ Nx : Hp → Prop, (∀ H', Nx H' → ∃ m', m' < m ∧ W (i + 1) m' H') ∧ ∀ x H', (Itr lo n).yld i H x H' → g x (wipe σ vs) H' fun σ2 H2 => wipe σ2 vs = wipe σ vs ∧ tt σ2 H2 fun b H3 =>
        if b = true then B Nx σ2 H3 else Nx H3) := by
  refine ⟨fun i m H => i ≤ n ∧ m + i = n ∧ Pv i H, ⟨n, Nat.zero_le _, rfl, h0⟩, ?_⟩
  rintro i m H ⟨hi, rfl, p⟩
  rcases Nat.eq_or_lt_of_le hi with e | hlt
  · exact .inl ⟨by show _ ≤ i; omega, hd H (e ▸ p)⟩
  · refine .inr ⟨hlt, Pv (i + 1), fun H' p' => ⟨m - 1, by omega, hlt, by omega, p'⟩, ?_⟩
    rintro x H' ⟨rfl, rfl⟩
    exact hs i _ hlt p
end OM

/-! ### raising without an argument, a caught error's field, == of lists of tuples -/
namespace OQ
open PySem L2 PySem.Spec PyProof.Rows
section
variable {X : Cx} {CX : CXT} {x : Str} {C fI : Addr} {k : Nat} {fd : FuncData} {ps : List Str} {sp : Sp} {ds : List Value} {dvs : List V} {p pos : Pos}
/-- C(), C an own error whose __init__ sets a field -/
theorem pmk_mk0 (T : OexC X.K C) (iC : PySem.W.findIn X.K (.ref C) "__init__" = some (some (.ref fI))) (tI : PySem.W.typeIn X.K (.ref fI) = some (.type "function"))
    (F1 : FnOk X.prog X.w X.K X.mg X.base CX k fI fd ps sp) (hr : Room (k + 1) X.A) (hb : Binds X.K fd ps ds) (hd : Vals dvs ds) (hx : Passes CX X (fun _ _ _ => False)) (hg : Gl X x) (hm : X.mg x = some (.ref C))
    (hdb : (x == ("__debug__" : Str)) = false := by decide) : PMk X (.Call (.Name x p) [] [] pos) (tMkO C sp dvs tNil) := by
  intro pins s σ H Q I asked
  refine wpAny_Call_Name_kw (ld_glob I hg hm ?_ hdb)
  refine PySem.W.callWith_K0 I.kIn T.kC ?_
  obtain ⟨free, J⟩ := newErr (X := X) [] C I
  have wish := asked.2 _ free
  have all : Vals (V.ref (s.heap.objs.size + 1) :: ([] ++ dvs)) (Value.ref (s.heap.objs.size + 1) :: ([] ++ ds)) := .cons rfl hd
  have many : (Value.ref (s.heap.objs.size + 1) :: [] ++ ds).length = ps.length := (all.length.symm).trans (F1.len _ _ _ _ wish)
  have body := F1.run _ X.stack _ _ ⟨[Value.ref (s.heap.objs.size + 1)], []⟩ _ _ _ (fun _ _ _ => False) (hr.make C [] []) (J.env0.make C [] []) (hb _ [_] J.kIn many) all wish
  obtain ⟨_, _, _, _, bm, _, _, _, _, _, _, _, _, _, _, look, good⟩ := T.cls
  refine wpAny_call (PySem.HandSPX.call_own F.excBase_ValueError (fun _ => PySem.HandSPX.refsVE_contains _ bm good) (I.kIn _ _ look) (PySem.W.looks_findIn I.kIn iC) (fun v => PySem.W.bind_fn I.kIn v tI) (by decide) (codeAny_mono body ?_))
  rintro (er | fl) s2 post
  · exact hx pins σ _ _ er s2 J post
  · match fl, post with
    | .ret u, ⟨v, H2, os2, bare2, un2, hok2, rv, ev, d, fs, ea, ed, hd1, q2⟩ =>
      subst ev
      exact ⟨rv, mk_end (raises_own T.exC T.tyC) I (Nat.le_succ _) (fun _ _ z => Heap.get?_push_of_some _ (Heap.get?_push_of_some _ z)) un2 hok2 os2 bare2 ea ed hd1 q2⟩
end
end OQ

/-! ### != of two lists of the very same items -/
namespace OM
open PySem L2 PySem.Spec PyProof.Rows
def rLstS (K : PySem.W.Frag) : R2 := fun x y H Q => ∃ a b xs, x = .ref a ∧ y = .ref b ∧ SqL K H a xs ∧ SqL K H b xs ∧ (∀ v ∈ xs, OQ.SameIt v) ∧ Q (.bl false) H
theorem op_neLS {X : Cx} (hu : X.A.units < cLine) : OpR X (compareOp .NotEq) (rLstS X.K) := by
  intro pins s σ H x y v u Q I rx ry h
  obtain ⟨a, b, xs, rfl, rfl, ha, hb, hs, q⟩ := h
  obtain rfl : v = Value.ref a := rx
  obtain rfl : u = Value.ref b := ry
  obtain ⟨us, r1, p1, _⟩ := I.list ha
  obtain ⟨ws, r2, p2, _⟩ := I.list hb
  have sz : us.toArray.size = ws.toArray.size := by rw [List.size_toArray, List.size_toArray, ← r1.length, ← r2.length]
  refine SeqAt.RcNeAt.lists (e := fun _ => true) p1.isList p2.isList sz hu (fun j h1 h2 => OQ.its_same hs r1 r2 j h1 h2) X.prog X.w X.xe _ ?_
  rw [show (!(List.range us.toArray.size).all fun _ => true) = false by simp]
  exact ⟨.bl false, H, I, rfl, q⟩
end OM

/-! ### list(zip(*rows)) -/
namespace ZN
open PySem PySem.Spec PyProof.Rows
/-- an iterator that has gone i turns over the list or tuple at a -/
def Src (h : Heap) (it a : Addr) (xs : Array Value) (i : Nat) : Prop := (h.IsListIter it a i ∧ h.IsList a xs) ∨ (h.IsTupleIter it a i ∧ h.IsTuple a xs)
theorem src_draws {prog : Program} {w : World} {A : Around} (hh : A.handled = none) {it a : Addr} (ne : a ≠ it) {xs : Array Value} : Draws prog w A it [it, a] xs.size (fun i v => xs[i]? = some v) (fun i h => Src h it a xs i) where
  live := fun i h s => s.elim (fun s => (Draws.list (prog := prog) (w := w) hh it a ne xs).live i h s) (fun s => (Draws.tuple (prog := prog) (w := w) hh it a ne xs).live i h s)
  frame := fun i h h' s k => s.elim (fun s => .inl ((Draws.list (prog := prog) (w := w) hh it a ne xs).frame i h h' s k)) (fun s => .inr ((Draws.tuple (prog := prog) (w := w) hh it a ne xs).frame i h h' s k))
  item := fun i s Q E hi st hQ => st.elim (fun st => (Draws.list hh it a ne xs).item i s Q E hi st fun x h' tk p q r => hQ x h' tk p (.inl q) r) (fun st => (Draws.tuple hh it a ne xs).item i s Q E hi st fun x h' tk p q r => hQ x h' tk p (.inr q) r)
  done := fun s Q E st hE => st.elim (fun st => (Draws.list hh it a ne xs).done s Q E st hE) (fun st => (Draws.tuple hh it a ne xs).done s Q E st hE)
theorem Src.over {h h' : Heap} {it a x : Addr} {xs : Array Value} {i : Nat} (s : Src h it a xs i) (e : Heap.SameBut x h h') (n1 : it ≠ x) (n2 : a ≠ x) : Src h' it a xs i := by
  rcases s with ⟨s1, s2⟩ | ⟨s1, s2⟩
  · exact .inl ⟨s1.at fun o q => e.extBut _ _ n1 q, s2.at fun o q => e.extBut _ _ n2 q⟩
  · exact .inr ⟨s1.at fun o q => e.extBut _ _ n1 q, s2.at fun o q => e.extBut _ _ n2 q⟩
theorem Src.at {h h' : Heap} {it a : Addr} {xs : Array Value} {i : Nat} (s : Src h it a xs i) (e : ∀ b, (b = it ∨ b = a) → ∀ o, h.get? b = some o → h'.get? b = some o) : Src h' it a xs i := by
  rcases s with ⟨s1, s2⟩ | ⟨s1, s2⟩
  · exact .inl ⟨s1.at fun o q => e _ (.inl rfl) _ q, s2.at fun o q => e _ (.inr rfl) _ q⟩
  · exact .inr ⟨s1.at fun o q => e _ (.inl rfl) _ q, s2.at fun o q => e _ (.inr rfl) _ q⟩
/-- the list or tuple at a holds xs -/
def Whole (h : Heap) (a : Addr) (xs : Array Value) : Prop := h.IsList a xs ∨ h.IsTuple a xs
theorem Whole.push {h : Heap} {a : Addr} {xs : Array Value} {o : Obj} (w : Whole h a xs) : Whole (h.push o) a xs := w.elim (fun w => .inl (w.at fun o q => Heap.get?_push_of_some _ q)) (fun w => .inr (w.at fun o q => Heap.get?_push_of_some _ q))
/-- the iterators over these, as they begin: at b, b + 1, .. -/
def Beg (h : Heap) (b : Nat) : List (Addr × Array Value) → Prop
  | [] => True
  | s :: ss => Src h b s.1 s.2 0 ∧ Beg h (b + 1) ss
section
variable {prog : Program} {w : World} {A : Around} {E : Value → Shared → Prop}
theorem one_iter {a : Addr} {xs : Array Value} {s : Shared} {Q : Value → Shared → Prop} (wh : Whole s.heap a xs)
    (h : ∀ h', Src h' s.heap.objs.size a xs 0 → h'.objs.size = s.heap.objs.size + 1 → (∀ c o, s.heap.get? c = some o → h'.get? c = some o) → Q (.ref s.heap.objs.size) { s with heap := h' }) : wpAny (model prog w) A (pyIter (.ref a)) Q E s := by
  rcases wh with wh | wh
  · refine wpAny_pyIter_list wh (h _ (.inl ⟨⟨_, Heap.get?_push_size _ rfl, rfl, rfl⟩, wh.at fun o q => Heap.get?_push_of_some _ q⟩) (Heap.size_push ..) fun c o q => Heap.get?_push_of_some _ q)
  · refine wpAny_pyIter_tuple wh (h _ (.inr ⟨⟨_, Heap.get?_push_size _ rfl, rfl, rfl⟩, wh.at fun o q => Heap.get?_push_of_some _ q⟩) (Heap.size_push ..) fun c o q => Heap.get?_push_of_some _ q)
end
end ZN
namespace ZN
open PySem PySem.Spec PyProof.Rows
def refs (b m : Nat) : List Value := (List.range m).map fun j => Value.ref (b + j)
theorem refs_succ {b m : Nat} : refs b (m + 1) = refs b m ++ [.ref (b + m)] := by unfold refs; rw [List.range_succ, List.map_append]; rfl
theorem Whole.at {h h' : Heap} {a : Addr} {xs : Array Value} (w : Whole h a xs) (k : ∀ c o, h.get? c = some o → h'.get? c = some o) : Whole h' a xs := w.elim (fun w => .inl (w.at fun o q => k _ _ q)) (fun w => .inr (w.at fun o q => k _ _ q))
theorem Whole.lt {h : Heap} {a : Addr} {xs : Array Value} (w : Whole h a xs) : a < h.objs.size := by
  rcases w with ⟨o, e, _⟩ | ⟨o, e, _⟩
  · exact Heap.lt_size e
  · exact Heap.lt_size e
section
variable {prog : Program} {w : World} {A : Around} {E : Value → Shared → Prop}
theorem all_iter {ss : List (Addr × Array Value)} {s : Shared} {Q : List Value → Shared → Prop} (wh : ∀ p ∈ ss, Whole s.heap p.1 p.2)
    (h : ∀ h', (∀ (j : Nat) p, ss[j]? = some p → Src h' (s.heap.objs.size + j) p.1 p.2 0) → h'.objs.size = s.heap.objs.size + ss.length → (∀ c o, s.heap.get? c = some o → h'.get? c = some o) → Q (refs s.heap.objs.size ss.length) { s with heap := h' }) :
    wpAny (model prog w) A (Builtin.SmallTypes.iterAll (ss.map fun p => Value.ref p.1)) Q E s := by
  unfold Builtin.SmallTypes.iterAll
  refine wpAny_bind (wpAny_forIn_list _ (fun rest its s' => ∃ (dn rs : List (Addr × Array Value)) (h' : Heap), ss = dn ++ rs ∧ rest = rs.map (fun p => Value.ref p.1) ∧ its.toList = refs s.heap.objs.size dn.length ∧ s' = { s with heap := h' } ∧ h'.objs.size = s.heap.objs.size + dn.length ∧
    (∀ c o, s.heap.get? c = some o → h'.get? c = some o) ∧ ∀ (j : Nat) p, dn[j]? = some p → Src h' (s.heap.objs.size + j) p.1 p.2 0) _ ?_ ?_ _ _ ⟨[], ss, s.heap, rfl, rfl, rfl, rfl, rfl, (fun _ _ e => e), (fun j p e => by simp at e)⟩)
  · rintro x rest its s' ⟨dn, rs, h', es, er, ei, rfl, sz, kp, al⟩
    cases rs with
    | nil => cases er
    | cons p rs =>
      cases er
      have pm : p ∈ ss := by rw [es]; exact List.mem_append_right _ (List.mem_cons_self ..)
      have lt := (wh p pm).lt
      refine wpAny_bind (wpAny_holding ?_)
      refine one_iter (s := { s with heap := h' }) ((wh p pm).at kp) fun h2 s2 z2 k2 => wpAny_pure ?_
      replace z2 : h2.objs.size = h'.objs.size + 1 := z2
      replace k2 : ∀ c o, h'.get? c = some o → h2.get? c = some o := k2
      replace s2 : Src h2 h'.objs.size p.1 p.2 0 := s2
      refine ⟨dn ++ [p], rs, h2, by rw [List.append_assoc]; exact es, rfl, ?_, rfl, by rw [List.length_append, z2, sz]; rfl, fun c o e => k2 _ _ (kp _ _ e), fun j q e => ?_⟩
      · rw [Array.toList_push, ei, List.length_append]
        show _ = refs _ (dn.length + 1)
        rw [refs_succ, ← sz]
      · by_cases lj : j < dn.length
        · rw [List.getElem?_append_left lj] at e
          exact (al j q e).at fun b _ o e => k2 _ _ e
        · have : j = dn.length := by
            have := (List.getElem?_eq_some_iff.mp e).1
            rw [List.length_append] at this
            simp at this
            omega
          subst this
          rw [List.getElem?_append_right (by omega), Nat.sub_self] at e
          cases e
          rw [sz] at s2
          exact s2
  · rintro its s' ⟨dn, rs, h', es, er, ei, rfl, sz, kp, al⟩
    cases rs with
    | cons p rs => cases er
    | nil =>
      rw [List.append_nil] at es
      subst es
      refine wpAny_pure ?_
      rw [ei]
      exact h h' al sz kp
/-- a zip as it begins -/
def ZNew (h : Heap) (b m : Nat) : Prop := h.get? (b + m) = some { cls := .type "tuple", data := .seq (refs b m).toArray } ∧ h.get? (b + m + 1) = some { cls := .type "tuple", data := .seq (List.replicate m Value.none).toArray } ∧ IsZip h (b + m + 2) (b + m) (b + m + 1) .none
theorem new_class {M : Model} {A : Around} {vs : List Value} {Q : Value × List Value → Shared → Prop} {s : Shared} (h : Q (.type "zip", vs) s) : wpAny M A (Builtin.SmallTypes.newClass "zip" ⟨Value.type "zip" :: vs, []⟩) Q E s := by
  unfold Builtin.SmallTypes.newClass
  dsimp only
  show wpAny M A ((pure true : Sem Bool) >>= _) Q E s
  refine wpAny_bind (wpAny_pure ?_)
  simp only [Bool.not_true, Bool.false_eq_true, if_false]
  rw [sub_zip]
  refine wpAny_bind (wpAny_pure ?_)
  simp only [Bool.not_true, Bool.false_eq_true, if_false]
  exact wpAny_pure h
theorem refs_len {b m : Nat} : (refs b m).length = m := by unfold refs; rw [List.length_map, List.length_range]
theorem zip_new {ss : List (Addr × Array Value)} {s : Shared} {Q : Fin → Shared → Prop} (few : ss.length ≤ 1000) (wh : ∀ p ∈ ss, Whole s.heap p.1 p.2)
    (h : ∀ h', (∀ (j : Nat) p, ss[j]? = some p → Src h' (s.heap.objs.size + j) p.1 p.2 0) → h'.objs.size = s.heap.objs.size + ss.length + 3 → (∀ c o, s.heap.get? c = some o → h'.get? c = some o) → ZNew h' s.heap.objs.size ss.length → Q (.done (.ret (.ref (s.heap.objs.size + ss.length + 2)))) { s with heap := h' }) :
    wpAny (model prog w) A (Builtin.«zip.__new__» ⟨.type "zip" :: ss.map fun p => Value.ref p.1, []⟩) Q E s := by
  have z1000 : 1000 ≤ sizeLine := by decide
  unfold Builtin.«zip.__new__»
  refine wpAny_bind (new_class ?_)
  show wpAny _ _ (Builtin.SmallTypes.iterAll _ >>= _) _ _ _
  refine wpAny_bind (all_iter wh fun h1 al1 sz1 kp1 => ?_)
  show wpAny _ _ (newTuple _ >>= _) _ _ _
  refine wpAny_bind (wpAny_newTuple ?_ (by rw [List.size_toArray, refs_len]; omega))
  refine wpAny_bind (wpAny_newTuple ?_ (by rw [List.size_toArray, List.length_map, refs_len]; omega))
  refine wpAny_bind ?_
  unfold Builtin.SmallTypes.newRecord
  refine wpAny_newObj_type ?_ (by show 5 ≤ sizeLine + 2; decide)
  refine wpAny_pure ?_
  have e1 : List.map (fun _ => Value.none) (refs s.heap.objs.size ss.length) = List.replicate ss.length Value.none := by
    rw [List.map_const', refs_len]
  have z1 : (h1.push { cls := .type "tuple", data := .seq (refs s.heap.objs.size ss.length).toArray }).objs.size = s.heap.objs.size + ss.length + 1 := by rw [Heap.size_push, sz1]
  have z2 : ((h1.push { cls := .type "tuple", data := .seq (refs s.heap.objs.size ss.length).toArray }).push { cls := .type "tuple", data := .seq (List.replicate ss.length Value.none).toArray }).objs.size = s.heap.objs.size + ss.length + 2 := by rw [Heap.size_push, z1]
  show Q (.done (.ret (.ref ((h1.push { cls := .type "tuple", data := .seq (refs s.heap.objs.size ss.length).toArray }).push { cls := .type "tuple", data := .seq (List.map (fun _ => Value.none) (refs s.heap.objs.size ss.length)).toArray }).objs.size))) { s with heap := ((h1.push { cls := .type "tuple", data := .seq (refs s.heap.objs.size ss.length).toArray }).push { cls := .type "tuple", data := .seq (List.map (fun _ => Value.none) (refs s.heap.objs.size ss.length)).toArray }).push { cls := .type "zip", data := .fields #[.none, .bool false, .bool false, .ref h1.objs.size, .ref (h1.push { cls := .type "tuple", data := .seq (refs s.heap.objs.size ss.length).toArray }).objs.size] } }
  rw [e1, z2, z1, sz1]
  have up : ∀ c o, h1.get? c = some o → (((h1.push { cls := .type "tuple", data := .seq (refs s.heap.objs.size ss.length).toArray }).push { cls := .type "tuple", data := .seq (List.replicate ss.length Value.none).toArray }).push { cls := .type "zip", data := .fields #[.none, .bool false, .bool false, .ref (s.heap.objs.size + ss.length), .ref (s.heap.objs.size + ss.length + 1)] }).get? c = some o := fun c o e => Heap.get?_push_of_some _ (Heap.get?_push_of_some _ (Heap.get?_push_of_some _ e))
  refine h _ (fun j p e => (al1 j p e).at fun b _ o q => up b o q) (by rw [Heap.size_push, z2]) (fun c o e => up c o (kp1 c o e)) ⟨?_, ?_, ?_⟩
  · rw [← sz1]; exact Heap.get?_push_of_some _ (Heap.get?_push_of_some _ (Heap.get?_push_size _ rfl))
  · rw [← z1]; exact Heap.get?_push_of_some _ (Heap.get?_push_size _ rfl)
  · show Heap.get? _ (s.heap.objs.size + ss.length + 2) = _
    rw [← z2]; exact Heap.get?_push_size _ rfl
end
end ZN
namespace ZN
open PySem PySem.Spec PyProof.Rows
theorem tc (vs : List Value) : checkTypeCall "zip" ⟨vs, []⟩ = pure () := by kernel_rfl
theorem nc0 : checkBuiltinCall "zip.__new__" ⟨.type "zip" :: [], []⟩ = pure () := by kernel_rfl
theorem ai0 (z : Value) : argsOk "object.__init__" ⟨z :: [], []⟩ := by unfold argsOk; kernel_rfl
theorem nc1 (a1 : Value) : checkBuiltinCall "zip.__new__" ⟨.type "zip" :: [a1], []⟩ = pure () := by kernel_rfl
theorem ai1 (z : Value) (a1 : Value) : argsOk "object.__init__" ⟨z :: [a1], []⟩ := by unfold argsOk; kernel_rfl
theorem nc2 (a1 a2 : Value) : checkBuiltinCall "zip.__new__" ⟨.type "zip" :: [a1, a2], []⟩ = pure () := by kernel_rfl
theorem ai2 (z : Value) (a1 a2 : Value) : argsOk "object.__init__" ⟨z :: [a1, a2], []⟩ := by unfold argsOk; kernel_rfl
theorem nc3 (a1 a2 a3 : Value) : checkBuiltinCall "zip.__new__" ⟨.type "zip" :: [a1, a2, a3], []⟩ = pure () := by kernel_rfl
theorem ai3 (z : Value) (a1 a2 a3 : Value) : argsOk "object.__init__" ⟨z :: [a1, a2, a3], []⟩ := by unfold argsOk; kernel_rfl
theorem nc4 (a1 a2 a3 a4 : Value) : checkBuiltinCall "zip.__new__" ⟨.type "zip" :: [a1, a2, a3, a4], []⟩ = pure () := by kernel_rfl
theorem ai4 (z : Value) (a1 a2 a3 a4 : Value) : argsOk "object.__init__" ⟨z :: [a1, a2, a3, a4], []⟩ := by unfold argsOk; kernel_rfl
theorem nc5 (a1 a2 a3 a4 a5 : Value) : checkBuiltinCall "zip.__new__" ⟨.type "zip" :: [a1, a2, a3, a4, a5], []⟩ = pure () := by kernel_rfl
theorem ai5 (z : Value) (a1 a2 a3 a4 a5 : Value) : argsOk "object.__init__" ⟨z :: [a1, a2, a3, a4, a5], []⟩ := by unfold argsOk; kernel_rfl
theorem nc6 (a1 a2 a3 a4 a5 a6 : Value) : checkBuiltinCall "zip.__new__" ⟨.type "zip" :: [a1, a2, a3, a4, a5, a6], []⟩ = pure () := by kernel_rfl
theorem ai6 (z : Value) (a1 a2 a3 a4 a5 a6 : Value) : argsOk "object.__init__" ⟨z :: [a1, a2, a3, a4, a5, a6], []⟩ := by unfold argsOk; kernel_rfl
theorem nc7 (a1 a2 a3 a4 a5 a6 a7 : Value) : checkBuiltinCall "zip.__new__" ⟨.type "zip" :: [a1, a2, a3, a4, a5, a6, a7], []⟩ = pure () := by kernel_rfl
theorem ai7 (z : Value) (a1 a2 a3 a4 a5 a6 a7 : Value) : argsOk "object.__init__" ⟨z :: [a1, a2, a3, a4, a5, a6, a7], []⟩ := by unfold argsOk; kernel_rfl
theorem nc8 (a1 a2 a3 a4 a5 a6 a7 a8 : Value) : checkBuiltinCall "zip.__new__" ⟨.type "zip" :: [a1, a2, a3, a4, a5, a6, a7, a8], []⟩ = pure () := by kernel_rfl
theorem ai8 (z : Value) (a1 a2 a3 a4 a5 a6 a7 a8 : Value) : argsOk "object.__init__" ⟨z :: [a1, a2, a3, a4, a5, a6, a7, a8], []⟩ := by unfold argsOk; kernel_rfl
theorem nc9 (a1 a2 a3 a4 a5 a6 a7 a8 a9 : Value) : checkBuiltinCall "zip.__new__" ⟨.type "zip" :: [a1, a2, a3, a4, a5, a6, a7, a8, a9], []⟩ = pure () := by kernel_rfl
theorem ai9 (z : Value) (a1 a2 a3 a4 a5 a6 a7 a8 a9 : Value) : argsOk "object.__init__" ⟨z :: [a1, a2, a3, a4, a5, a6, a7, a8, a9], []⟩ := by unfold argsOk; kernel_rfl
theorem nc10 (a1 a2 a3 a4 a5 a6 a7 a8 a9 a10 : Value) : checkBuiltinCall "zip.__new__" ⟨.type "zip" :: [a1, a2, a3, a4, a5, a6, a7, a8, a9, a10], []⟩ = pure () := by kernel_rfl
theorem ai10 (z : Value) (a1 a2 a3 a4 a5 a6 a7 a8 a9 a10 : Value) : argsOk "object.__init__" ⟨z :: [a1, a2, a3, a4, a5, a6, a7, a8, a9, a10], []⟩ := by unfold argsOk; kernel_rfl
theorem nc11 (a1 a2 a3 a4 a5 a6 a7 a8 a9 a10 a11 : Value) : checkBuiltinCall "zip.__new__" ⟨.type "zip" :: [a1, a2, a3, a4, a5, a6, a7, a8, a9, a10, a11], []⟩ = pure () := by kernel_rfl
theorem ai11 (z : Value) (a1 a2 a3 a4 a5 a6 a7 a8 a9 a10 a11 : Value) : argsOk "object.__init__" ⟨z :: [a1, a2, a3, a4, a5, a6, a7, a8, a9, a10, a11], []⟩ := by unfold argsOk; kernel_rfl
theorem nc12 (a1 a2 a3 a4 a5 a6 a7 a8 a9 a10 a11 a12 : Value) : checkBuiltinCall "zip.__new__" ⟨.type "zip" :: [a1, a2, a3, a4, a5, a6, a7, a8, a9, a10, a11, a12], []⟩ = pure () := by kernel_rfl
theorem ai12 (z : Value) (a1 a2 a3 a4 a5 a6 a7 a8 a9 a10 a11 a12 : Value) : argsOk "object.__init__" ⟨z :: [a1, a2, a3, a4, a5, a6, a7, a8, a9, a10, a11, a12], []⟩ := by unfold argsOk; kernel_rfl
theorem nc13 (a1 a2 a3 a4 a5 a6 a7 a8 a9 a10 a11 a12 a13 : Value) : checkBuiltinCall "zip.__new__" ⟨.type "zip" :: [a1, a2, a3, a4, a5, a6, a7, a8, a9, a10, a11, a12, a13], []⟩ = pure () := by kernel_rfl
theorem ai13 (z : Value) (a1 a2 a3 a4 a5 a6 a7 a8 a9 a10 a11 a12 a13 : Value) : argsOk "object.__init__" ⟨z :: [a1, a2, a3, a4, a5, a6, a7, a8, a9, a10, a11, a12, a13], []⟩ := by unfold argsOk; kernel_rfl
theorem nc14 (a1 a2 a3 a4 a5 a6 a7 a8 a9 a10 a11 a12 a13 a14 : Value) : checkBuiltinCall "zip.__new__" ⟨.type "zip" :: [a1, a2, a3, a4, a5, a6, a7, a8, a9, a10, a11, a12, a13, a14], []⟩ = pure () := by kernel_rfl
theorem ai14 (z : Value) (a1 a2 a3 a4 a5 a6 a7 a8 a9 a10 a11 a12 a13 a14 : Value) : argsOk "object.__init__" ⟨z :: [a1, a2, a3, a4, a5, a6, a7, a8, a9, a10, a11, a12, a13, a14], []⟩ := by unfold argsOk; kernel_rfl
theorem nc15 (a1 a2 a3 a4 a5 a6 a7 a8 a9 a10 a11 a12 a13 a14 a15 : Value) : checkBuiltinCall "zip.__new__" ⟨.type "zip" :: [a1, a2, a3, a4, a5, a6, a7, a8, a9, a10, a11, a12, a13, a14, a15], []⟩ = pure () := by kernel_rfl
theorem ai15 (z : Value) (a1 a2 a3 a4 a5 a6 a7 a8 a9 a10 a11 a12 a13 a14 a15 : Value) : argsOk "object.__init__" ⟨z :: [a1, a2, a3, a4, a5, a6, a7, a8, a9, a10, a11, a12, a13, a14, a15], []⟩ := by unfold argsOk; kernel_rfl
theorem nc16 (a1 a2 a3 a4 a5 a6 a7 a8 a9 a10 a11 a12 a13 a14 a15 a16 : Value) : checkBuiltinCall "zip.__new__" ⟨.type "zip" :: [a1, a2, a3, a4, a5, a6, a7, a8, a9, a10, a11, a12, a13, a14, a15, a16], []⟩ = pure () := by kernel_rfl
theorem ai16 (z : Value) (a1 a2 a3 a4 a5 a6 a7 a8 a9 a10 a11 a12 a13 a14 a15 a16 : Value) : argsOk "object.__init__" ⟨z :: [a1, a2, a3, a4, a5, a6, a7, a8, a9, a10, a11, a12, a13, a14, a15, a16], []⟩ := by unfold argsOk; kernel_rfl
theorem nc : ∀ vs : List Value, vs.length ≤ 16 → checkBuiltinCall "zip.__new__" ⟨.type "zip" :: vs, []⟩ = pure ()
  | [], _ => nc0 
  | [a1], _ => nc1 _
  | [a1, a2], _ => nc2 _ _
  | [a1, a2, a3], _ => nc3 _ _ _
  | [a1, a2, a3, a4], _ => nc4 _ _ _ _
  | [a1, a2, a3, a4, a5], _ => nc5 _ _ _ _ _
  | [a1, a2, a3, a4, a5, a6], _ => nc6 _ _ _ _ _ _
  | [a1, a2, a3, a4, a5, a6, a7], _ => nc7 _ _ _ _ _ _ _
  | [a1, a2, a3, a4, a5, a6, a7, a8], _ => nc8 _ _ _ _ _ _ _ _
  | [a1, a2, a3, a4, a5, a6, a7, a8, a9], _ => nc9 _ _ _ _ _ _ _ _ _
  | [a1, a2, a3, a4, a5, a6, a7, a8, a9, a10], _ => nc10 _ _ _ _ _ _ _ _ _ _
  | [a1, a2, a3, a4, a5, a6, a7, a8, a9, a10, a11], _ => nc11 _ _ _ _ _ _ _ _ _ _ _
  | [a1, a2, a3, a4, a5, a6, a7, a8, a9, a10, a11, a12], _ => nc12 _ _ _ _ _ _ _ _ _ _ _ _
  | [a1, a2, a3, a4, a5, a6, a7, a8, a9, a10, a11, a12, a13], _ => nc13 _ _ _ _ _ _ _ _ _ _ _ _ _
  | [a1, a2, a3, a4, a5, a6, a7, a8, a9, a10, a11, a12, a13, a14], _ => nc14 _ _ _ _ _ _ _ _ _ _ _ _ _ _
  | [a1, a2, a3, a4, a5, a6, a7, a8, a9, a10, a11, a12, a13, a14, a15], _ => nc15 _ _ _ _ _ _ _ _ _ _ _ _ _ _ _
  | [a1, a2, a3, a4, a5, a6, a7, a8, a9, a10, a11, a12, a13, a14, a15, a16], _ => nc16 _ _ _ _ _ _ _ _ _ _ _ _ _ _ _ _
  | _ :: _ :: _ :: _ :: _ :: _ :: _ :: _ :: _ :: _ :: _ :: _ :: _ :: _ :: _ :: _ :: _ :: _, h => by simp at h
theorem ai (z : Value) : ∀ vs : List Value, vs.length ≤ 16 → argsOk "object.__init__" ⟨z :: vs, []⟩
  | [], _ => ai0 z 
  | [a1], _ => ai1 z _
  | [a1, a2], _ => ai2 z _ _
  | [a1, a2, a3], _ => ai3 z _ _ _
  | [a1, a2, a3, a4], _ => ai4 z _ _ _ _
  | [a1, a2, a3, a4, a5], _ => ai5 z _ _ _ _ _
  | [a1, a2, a3, a4, a5, a6], _ => ai6 z _ _ _ _ _ _
  | [a1, a2, a3, a4, a5, a6, a7], _ => ai7 z _ _ _ _ _ _ _
  | [a1, a2, a3, a4, a5, a6, a7, a8], _ => ai8 z _ _ _ _ _ _ _ _
  | [a1, a2, a3, a4, a5, a6, a7, a8, a9], _ => ai9 z _ _ _ _ _ _ _ _ _
  | [a1, a2, a3, a4, a5, a6, a7, a8, a9, a10], _ => ai10 z _ _ _ _ _ _ _ _ _ _
  | [a1, a2, a3, a4, a5, a6, a7, a8, a9, a10, a11], _ => ai11 z _ _ _ _ _ _ _ _ _ _ _
  | [a1, a2, a3, a4, a5, a6, a7, a8, a9, a10, a11, a12], _ => ai12 z _ _ _ _ _ _ _ _ _ _ _ _
  | [a1, a2, a3, a4, a5, a6, a7, a8, a9, a10, a11, a12, a13], _ => ai13 z _ _ _ _ _ _ _ _ _ _ _ _ _
  | [a1, a2, a3, a4, a5, a6, a7, a8, a9, a10, a11, a12, a13, a14], _ => ai14 z _ _ _ _ _ _ _ _ _ _ _ _ _ _
  | [a1, a2, a3, a4, a5, a6, a7, a8, a9, a10, a11, a12, a13, a14, a15], _ => ai15 z _ _ _ _ _ _ _ _ _ _ _ _ _ _ _
  | [a1, a2, a3, a4, a5, a6, a7, a8, a9, a10, a11, a12, a13, a14, a15, a16], _ => ai16 z _ _ _ _ _ _ _ _ _ _ _ _ _ _ _ _
  | _ :: _ :: _ :: _ :: _ :: _ :: _ :: _ :: _ :: _ :: _ :: _ :: _ :: _ :: _ :: _ :: _ :: _, h => by simp at h
end ZN
namespace ZN
open PySem PySem.Spec PyProof.Rows
/-- the iterators after i turns, and the tuple of them -/
def ZAt (h : Heap) (b : Nat) (ss : List (Addr × Array Value)) (i : Nat) : Prop := (∀ (j : Nat) p, ss[j]? = some p → Src h (b + j) p.1 p.2 i) ∧ h.get? (b + ss.length) = some { cls := .type "tuple", data := .seq (refs b ss.length).toArray }
/-- what the i-th turn gives -/
def Row (ss : List (Addr × Array Value)) (i : Nat) (vals : List Value) : Prop := vals.length = ss.length ∧ ∀ (j : Nat) p, ss[j]? = some p → ∃ v, p.2[i]? = some v ∧ vals[j]? = some v
theorem ad {x y : Nat} (h : ¬ x = y) : (x : Addr) ≠ y := h
section
variable {prog : Program} {w : World} {A : Around} {E : Value → Shared → Prop}
theorem next_free (hh : A.handled = none) {ss : List (Addr × Array Value)} {b i : Nat} {vals : List Value} {arr : Array Value} {s : Shared} {Q : Value → Shared → Prop} (old : ∀ p ∈ ss, p.1 < b) (m0 : 0 < ss.length) (few : ss.length ≤ 1000) (hz : IsZip s.heap (b + ss.length + 2) (b + ss.length) (b + ss.length + 1) .none)
    (hTO : s.heap.get? (b + ss.length + 1) = some { cls := .type "tuple", data := .seq arr }) (ha : arr.size = ss.length) (st : ZAt s.heap b ss i) (hv : Row ss i vals)
    (h : ∀ h' tk, IsZipHeld h' (b + ss.length + 2) (b + ss.length) (b + ss.length + 1) s.heap.objs.size false → ZAt h' b ss (i + 1) → h'.get? s.heap.objs.size = some { cls := .type "tuple", data := .seq vals.toArray } → h'.objs.size = s.heap.objs.size + 1 →
      (∀ c o, c < b ∨ b + ss.length + 2 < c → s.heap.get? c = some o → h'.get? c = some o) → Q (.ref s.heap.objs.size) { s with heap := h', toks := tk }) :
    wpAny (model prog w) A (Builtin.«zip.__next__» ⟨[.ref (b + ss.length + 2)], []⟩) (fun fin s' => ∃ v, fin = .done (.ret v) ∧ Q v s') E s := by
  obtain ⟨hp, g, d, tk0, os⟩ := s
  show wpAny _ _ (field (.ref (b + ss.length + 2)) 2 >>= _) _ _ _
  refine wpAny_bind (wpAny_field hz rfl (x := .bool false) rfl ?_)
  show wpAny _ _ (field (.ref (b + ss.length + 2)) 3 >>= _) _ _ _
  refine wpAny_bind (wpAny_field hz rfl (x := .ref (b + ss.length)) rfl ?_)
  refine wpAny_bind (wpAny_seqItems st.2 rfl ?_)
  have ne : ((refs b ss.length).toArray.isEmpty) = false := by
    rw [List.isEmpty_toArray]
    cases e : refs b ss.length with
    | nil =>
      have := refs_len (b := b) (m := ss.length)
      rw [e] at this
      simp at this
      rw [← this] at m0
      exact absurd m0 (by simp)
    | cons _ _ => rfl
  simp only [ne, Bool.false_eq_true, if_false]
  show wpAny _ _ (Builtin.SmallTypes.ownedTupleIsFree (.ref (b + ss.length + 2)) >>= _) _ _ _
  refine wpAny_bind ?_
  unfold Builtin.SmallTypes.ownedTupleIsFree
  refine wpAny_bind (wpAny_field hz rfl (x := .none) rfl (wpAny_pure ?_))
  simp only [if_true]
  refine wpAny_bind (wpAny_rule ?_)
  refine wpAny_bind (wpAny_field hz rfl (x := .ref (b + ss.length + 1)) rfl ?_)
  refine wpAny_bind (wpAny_setField_rec hz (by simp) fun g0 hz0 hs0 => ?_)
  replace hz0 : IsZip g0 (b + ss.length + 2) (b + ss.length) (b + ss.length + 1) .ellipsis := hz0
  replace hs0 : Heap.SameBut (b + ss.length + 2) hp g0 := hs0
  refine wpAny_bind ?_
  have szl : (refs b ss.length).zipIdx.length = ss.length := by rw [List.length_zipIdx, refs_len]
  have at_ : ∀ k, k < ss.length → (refs b ss.length).zipIdx[k]? = some (.ref (b + k), k) := fun k hk => by
    rw [List.getElem?_zipIdx]
    unfold refs
    rw [List.getElem?_map, List.getElem?_range hk]
    simp
  refine wpAny_forIn_list _ (fun rest r s' => r = (none, ()) ∧ ∃ (k : Nat) (h' : Heap) (tk : Nat) (arr' : Array Value), k ≤ ss.length ∧ rest = (refs b ss.length).zipIdx.drop k ∧ s' = ⟨h', g, d, tk, os⟩ ∧ h'.objs.size = hp.objs.size ∧ IsZip h' (b + ss.length + 2) (b + ss.length) (b + ss.length + 1) .ellipsis ∧
    h'.get? (b + ss.length + 1) = some { cls := .type "tuple", data := .seq arr' } ∧ arr'.size = ss.length ∧ (∀ j, j < k → arr'[j]? = vals[j]?) ∧ (∀ (j : Nat) p, ss[j]? = some p → Src h' (b + j) p.1 p.2 (if j < k then i + 1 else i)) ∧ h'.get? (b + ss.length) = some { cls := .type "tuple", data := .seq (refs b ss.length).toArray } ∧
    ∀ c o, c < b ∨ b + ss.length + 2 < c → hp.get? c = some o → h'.get? c = some o) _ ?_ ?_ _ _ ⟨rfl, 0, g0, tk0, arr, by omega, rfl, rfl, hs0.1, hz0, hs0.extBut _ _ (ad (by omega)) hTO, ha, (fun j z => by omega), (fun j p e => ?_), hs0.extBut _ _ (ad (by omega)) st.2, fun c o hc e => hs0.extBut _ _ (ad (by omega)) e⟩
  · rintro x rest r s' ⟨rfl, k, h', tk, arr', hk, er, rfl, sz, hz', hTO', ha', hv', src, hTI', kp⟩
    have kl : k < ss.length := by
      by_cases c : k < ss.length
      · exact c
      · rw [List.drop_eq_nil_of_le (by rw [szl]; omega)] at er; cases er
    have e2 : (refs b ss.length).zipIdx.drop k = (.ref (b + k), k) :: (refs b ss.length).zipIdx.drop (k + 1) := by
      rw [List.drop_eq_getElem_cons (by rw [szl]; exact kl)]
      have := at_ k kl
      rw [List.getElem?_eq_getElem (by rw [szl]; exact kl)] at this
      rw [Option.some.inj this]
    rw [e2] at er
    cases er
    obtain ⟨v, ev, evals⟩ := hv.2 k _ (List.getElem?_eq_getElem kl)
    have pl : @LT.lt Nat instLTNat (ss[k]).1 b := old _ (List.getElem_mem kl)
    have sk := src k _ (List.getElem?_eq_getElem kl)
    rw [if_neg (Nat.lt_irrefl k)] at sk
    refine wpAny_bind (wpAny_onRaise ?_)
    show wpAny _ _ (Builtin.SmallTypes.nextOf (.ref (b + k)) >>= _) _ _ ⟨h', g, d, tk, os⟩
    refine wpAny_bind ((src_draws hh (ad (by omega))).item i _ _ _ (by have := (Array.getElem?_eq_some_iff.mp ev).1; exact this) sk fun x p1 tk1 hx sn1 hp1 => wpAny_pure ?_)
    replace hx : ss[k].2[i]? = some x := hx
    rw [ev] at hx
    cases hx
    replace hp1 : Heap.SameBut (b + k) h' p1 := hp1
    have hU1 := hp1.extBut _ _ (ad (by omega)) hTO'
    refine wpAny_bind (wpAny_seqItems (s := ⟨p1, g, d, tk1, os⟩) hU1 rfl ?_)
    refine wpAny_bind (wpAny_updateSeq (s := ⟨p1, g, d, tk1, os⟩) hU1 rfl ?_)
    refine wpAny_bind (wpAny_letGo (wpAny_pure ?_))
    have su : Heap.SameBut (b + ss.length + 1) p1 (p1.update (b + ss.length + 1) (Obj.mapSeq (fun a => a.setIfInBounds k v))) := Heap.SameBut.update ..
    refine ⟨rfl, k + 1, _, tk1, arr'.setIfInBounds k v, kl, rfl, rfl, by rw [su.1, hp1.1, sz], su.extBut _ _ (ad (by omega)) (hp1.extBut _ _ (ad (by omega)) hz'), ?_, by rw [Array.size_setIfInBounds]; exact ha', fun j hj => ?_, fun j p e => ?_, su.extBut _ _ (ad (by omega)) (hp1.extBut _ _ (ad (by omega)) hTI'), fun c o hc e => su.extBut _ _ (ad (by omega)) (hp1.extBut _ _ (ad (by omega)) (kp c o hc e))⟩
    · rw [Heap.get?_update_self _ hU1 rfl]
      simp [Obj.mapSeq]
    · rw [Array.getElem?_setIfInBounds]
      by_cases c : k = j
      · subst c
        rw [if_pos rfl, if_pos (by omega)]
        exact evals.symm
      · rw [if_neg c]
        exact hv' j (by omega)
    · have jl : j < ss.length := (List.getElem?_eq_some_iff.mp e).1
      have pj : @LT.lt Nat instLTNat p.1 b := old p (List.mem_of_getElem? e)
      by_cases c : j = k
      · subst c
        rw [List.getElem?_eq_getElem kl] at e
        cases e
        rw [if_pos (by omega)]
        exact Src.over sn1 su (ad (by omega)) (ad (by omega))
      · have := src j p e
        rw [show (if j < k + 1 then i + 1 else i) = (if j < k then i + 1 else i) by split <;> split <;> omega]
        exact (this.over hp1 (ad (by omega)) (ad (by omega))).over su (ad (by omega)) (ad (by omega))
  · rintro r s' ⟨rfl, k, h', tk, arr', hk, er, rfl, sz, hz', hTO', ha', hv', src, hTI', kp⟩
    have km : k = ss.length := by
      have := congrArg List.length er
      rw [List.length_drop, szl] at this
      simp at this
      omega
    subst km
    have ea : arr' = vals.toArray := by
      apply Array.ext_getElem?
      intro j
      by_cases c : j < ss.length
      · rw [hv' j c, List.getElem?_toArray]
      · rw [Array.getElem?_eq_none (by omega), List.getElem?_toArray, List.getElem?_eq_none (by rw [hv.1]; omega)]
    subst ea
    refine wpAny_bind (wpAny_seqItems (s := ⟨h', g, d, tk, os⟩) hTO' rfl ?_)
    refine wpAny_bind (wpAny_newTuple ?_ (by show vals.length ≤ _; rw [hv.1]; exact Nat.le_trans few (by decide)))
    refine wpAny_bind ?_
    unfold Builtin.SmallTypes.ownedTupleHandOut
    have zlt : @LT.lt Nat instLTNat (b + ss.length + 2) h'.objs.size := Heap.lt_size hz'
    have hzP : IsZip (h'.push { cls := .type "tuple", data := .seq vals.toArray }) (b + ss.length + 2) (b + ss.length) (b + ss.length + 1) .ellipsis := Heap.get?_push_of_some _ hz'
    refine wpAny_bind (wpAny_setField_rec hzP (by simp) fun p1 hz1 hs1 => ?_)
    replace hz1 : IsZip p1 (b + ss.length + 2) (b + ss.length) (b + ss.length + 1) (rawInt h'.objs.size) := hz1
    refine wpAny_setField_rec hz1 (by simp) fun p2 hz2 hs2 => ?_
    replace hz2 : IsZipHeld p2 (b + ss.length + 2) (b + ss.length) (b + ss.length + 1) h'.objs.size false := hz2
    replace hs1 : Heap.SameBut (b + ss.length + 2) (h'.push { cls := .type "tuple", data := .seq vals.toArray }) p1 := hs1
    replace hs2 : Heap.SameBut (b + ss.length + 2) p1 p2 := hs2
    have up : ∀ c o, c ≠ b + ss.length + 2 → h'.get? c = some o → p2.get? c = some o := fun c o c1 e => hs2.extBut _ _ c1 (hs1.extBut _ _ c1 (Heap.get?_push_of_some _ e))
    have hNew : p2.get? h'.objs.size = some { cls := .type "tuple", data := .seq vals.toArray } := hs2.extBut _ _ (ad (by omega)) (hs1.extBut _ _ (ad (by omega)) (Heap.get?_push_size _ rfl))
    have sz2 : p2.objs.size = h'.objs.size + 1 := by rw [hs2.1, hs1.1, Heap.size_push]
    rw [sz] at hz2 hNew sz2
    refine wpAny_pure ⟨_, rfl, ?_⟩
    show Q (.ref h'.objs.size) ⟨p2, g, d, tk, os⟩
    rw [sz]
    refine h p2 tk hz2 ⟨fun j p e => ?_, up _ _ (ad (by omega)) hTI'⟩ hNew sz2 fun c o hc e => up c o (ad (by omega)) (kp c o hc e)
    have jl : j < ss.length := (List.getElem?_eq_some_iff.mp e).1
    have pj : @LT.lt Nat instLTNat p.1 b := old p (List.mem_of_getElem? e)
    have := src j p e
    rw [if_pos jl] at this
    exact this.at fun c hc o q => up c o (by rcases hc with rfl | rfl; exact ad (by omega); exact ad (by omega)) q
  · rw [if_neg (by omega)]
    exact (st.1 j p e).over hs0 (ad (by have := (List.getElem?_eq_some_iff.mp e).1; omega)) (ad (by have pj : @LT.lt Nat instLTNat p.1 b := old p (List.mem_of_getElem? e); omega))
end
end ZN
namespace ZN
open PySem PySem.Spec PyProof.Rows
theorem refs_ne {b m : Nat} (m0 : 0 < m) : (refs b m).toArray.isEmpty = false := by
  rw [List.isEmpty_toArray]
  cases e : refs b m with
  | nil =>
    have := refs_len (b := b) (m := m)
    rw [e] at this
    simp at this
    omega
  | cons _ _ => rfl
theorem refs_drop {b m k : Nat} (h : k < m) : (refs b m).drop k = .ref (b + k) :: (refs b m).drop (k + 1) := by
  have lk : k < (refs b m).length := by rw [refs_len]; exact h
  rw [List.drop_eq_getElem_cons lk]
  congr 1
  simp [refs]
section
variable {prog : Program} {w : World} {A : Around} {E : Value → Shared → Prop}
theorem next_held (hh : A.handled = none) {ss : List (Addr × Array Value)} {b i : Nat} {T : Addr} {oT : Obj} {f : Bool} {vals : List Value} {s : Shared} {Q : Value → Shared → Prop} (old : ∀ p ∈ ss, p.1 < b) (m0 : 0 < ss.length) (few : ss.length ≤ 1000)
    (hz : IsZipHeld s.heap (b + ss.length + 2) (b + ss.length) (b + ss.length + 1) T f) (hT : s.heap.get? T = some oT) (st : ZAt s.heap b ss i) (hv : Row ss i vals)
    (h : ∀ h' tk, IsZipHeld h' (b + ss.length + 2) (b + ss.length) (b + ss.length + 1) T true → ZAt h' b ss (i + 1) → h'.get? s.heap.objs.size = some { cls := .type "tuple", data := .seq vals.toArray } → h'.objs.size = s.heap.objs.size + 1 →
      (∀ c o, c < b ∨ b + ss.length + 2 < c → s.heap.get? c = some o → h'.get? c = some o) → Q (.ref s.heap.objs.size) { s with heap := h', toks := tk }) :
    wpAny (model prog w) A (Builtin.«zip.__next__» ⟨[.ref (b + ss.length + 2)], []⟩) (fun fin s' => ∃ v, fin = .done (.ret v) ∧ Q v s') E s := by
  obtain ⟨hp, g, d, tk0, os⟩ := s
  show wpAny _ _ (field (.ref (b + ss.length + 2)) 2 >>= _) _ _ _
  refine wpAny_bind (wpAny_field hz rfl (x := .bool false) rfl ?_)
  show wpAny _ _ (field (.ref (b + ss.length + 2)) 3 >>= _) _ _ _
  refine wpAny_bind (wpAny_field hz rfl (x := .ref (b + ss.length)) rfl ?_)
  refine wpAny_bind (wpAny_seqItems st.2 rfl ?_)
  simp only [refs_ne m0, Bool.false_eq_true, if_false]
  show wpAny _ _ (Builtin.SmallTypes.ownedTupleIsFree (.ref (b + ss.length + 2)) >>= _) _ _ _
  refine wpAny_bind (wpAny_tupleHeld_zip hz hT fun g0 hz0 hs0 => ?_)
  replace hs0 : Heap.SameBut (b + ss.length + 2) hp g0 := hs0
  simp only [Bool.false_eq_true, if_false]
  refine wpAny_bind ?_
  rw [← Array.forIn_toList]
  refine wpAny_forIn_list _ (fun rest r s' => ∃ (k : Nat) (h' : Heap) (tk : Nat), r = (none, (vals.take k).toArray) ∧ k ≤ ss.length ∧ rest = (refs b ss.length).drop k ∧ s' = ⟨h', g, d, tk, os⟩ ∧ h'.objs.size = hp.objs.size ∧ IsZipHeld h' (b + ss.length + 2) (b + ss.length) (b + ss.length + 1) T true ∧
    (∀ (j : Nat) p, ss[j]? = some p → Src h' (b + j) p.1 p.2 (if j < k then i + 1 else i)) ∧ h'.get? (b + ss.length) = some { cls := .type "tuple", data := .seq (refs b ss.length).toArray } ∧
    ∀ c o, c < b ∨ b + ss.length + 2 < c → hp.get? c = some o → h'.get? c = some o) _ ?_ ?_ _ _ ⟨0, g0, tk0, rfl, by omega, rfl, rfl, hs0.1, hz0, (fun j p e => ?_), hs0.extBut _ _ (ad (by omega)) st.2, fun c o hc e => hs0.extBut _ _ (ad (by omega)) e⟩
  · rintro x rest r s' ⟨k, h', tk, rfl, hk, er, rfl, sz, hz', src, hTI', kp⟩
    have kl : k < ss.length := by
      by_cases c : k < ss.length
      · exact c
      · rw [List.drop_eq_nil_of_le (by rw [refs_len]; omega)] at er; cases er
    rw [refs_drop kl] at er
    cases er
    obtain ⟨v, ev, evals⟩ := hv.2 k _ (List.getElem?_eq_getElem kl)
    have pl : @LT.lt Nat instLTNat (ss[k]).1 b := old _ (List.getElem_mem kl)
    have sk := src k _ (List.getElem?_eq_getElem kl)
    rw [if_neg (Nat.lt_irrefl k)] at sk
    refine wpAny_bind (wpAny_holding ?_)
    show wpAny _ _ (Builtin.SmallTypes.nextOf (.ref (b + k)) >>= _) _ _ ⟨h', g, d, tk, os⟩
    refine wpAny_bind ((src_draws hh (ad (by omega))).item i _ _ _ (by have := (Array.getElem?_eq_some_iff.mp ev).1; exact this) sk fun x p1 tk1 hx sn1 hp1 => wpAny_pure ?_)
    replace hx : ss[k].2[i]? = some x := hx
    rw [ev] at hx
    cases hx
    replace hp1 : Heap.SameBut (b + k) h' p1 := hp1
    have vk : k < vals.length := by rw [hv.1]; exact kl
    refine wpAny_pure ⟨k + 1, p1, tk1, ?_, kl, rfl, rfl, by rw [hp1.1, sz], hp1.extBut _ _ (ad (by omega)) hz', fun j p e => ?_, hp1.extBut _ _ (ad (by omega)) hTI', fun c o hc e => hp1.extBut _ _ (ad (by omega)) (kp c o hc e)⟩
    · rw [List.take_succ, evals]
      simp
    · have jl : j < ss.length := (List.getElem?_eq_some_iff.mp e).1
      have pj : @LT.lt Nat instLTNat p.1 b := old p (List.mem_of_getElem? e)
      by_cases c : j = k
      · subst c
        rw [List.getElem?_eq_getElem kl] at e
        cases e
        rw [if_pos (by omega)]
        exact sn1
      · have := src j p e
        rw [show (if j < k + 1 then i + 1 else i) = (if j < k then i + 1 else i) by split <;> split <;> omega]
        exact this.over hp1 (ad (by omega)) (ad (by omega))
  · rintro r s' ⟨k, h', tk, rfl, hk, er, rfl, sz, hz', src, hTI', kp⟩
    have km : k = ss.length := by
      have := congrArg List.length er
      rw [List.length_drop, refs_len] at this
      simp at this
      omega
    subst km
    have ea : vals.take ss.length = vals := List.take_of_length_le (by rw [hv.1]; exact Nat.le_refl _)
    rw [ea]
    refine wpAny_bind (wpAny_newTuple ?_ (by show vals.length ≤ _; rw [hv.1]; exact Nat.le_trans few (by decide)))
    have zlt : @LT.lt Nat instLTNat (b + ss.length + 2) h'.objs.size := Heap.lt_size hz'
    have hNew : (h'.push { cls := .type "tuple", data := .seq vals.toArray }).get? h'.objs.size = some { cls := .type "tuple", data := .seq vals.toArray } := Heap.get?_push_size _ rfl
    have sz2 : (h'.push { cls := .type "tuple", data := .seq vals.toArray }).objs.size = h'.objs.size + 1 := Heap.size_push ..
    refine wpAny_pure ⟨_, rfl, ?_⟩
    show Q (.ref h'.objs.size) ⟨h'.push { cls := .type "tuple", data := .seq vals.toArray }, g, d, tk, os⟩
    rw [sz] at hNew sz2 ⊢
    refine h _ tk (Heap.get?_push_of_some _ hz') ⟨fun j p e => ?_, Heap.get?_push_of_some _ hTI'⟩ hNew sz2 fun c o hc e => Heap.get?_push_of_some _ (kp c o hc e)
    have jl : j < ss.length := (List.getElem?_eq_some_iff.mp e).1
    have := src j p e
    rw [if_pos jl] at this
    exact this.at fun c _ o q => Heap.get?_push_of_some _ q
  · rw [if_neg (by omega)]
    exact (st.1 j p e).over hs0 (ad (by have := (List.getElem?_eq_some_iff.mp e).1; omega)) (ad (by have pj : @LT.lt Nat instLTNat p.1 b := old p (List.mem_of_getElem? e); omega))
end
end ZN
namespace ZN
open PySem PySem.Spec PyProof.Rows
/-- the zip and its owned tuple behind i turns -/
def ZSt (h : Heap) (b : Nat) (ss : List (Addr × Array Value)) (i : Nat) : Prop := ZAt h b ss i ∧
  ((i = 0 ∧ IsZip h (b + ss.length + 2) (b + ss.length) (b + ss.length + 1) .none ∧ ∃ arr : Array Value, arr.size = ss.length ∧ h.get? (b + ss.length + 1) = some { cls := .type "tuple", data := .seq arr }) ∨
   (0 < i ∧ ∃ T f oT, IsZipHeld h (b + ss.length + 2) (b + ss.length) (b + ss.length + 1) T f ∧ h.get? T = some oT ∧ @LT.lt Nat instLTNat (b + ss.length + 2) T))
section
variable {prog : Program} {w : World} {A : Around} {E : Value → Shared → Prop}
theorem zipIdx_cons0 {x : Value} {l : List Value} : (x :: l).zipIdx = (x, 0) :: l.zipIdx 1 := rfl
theorem refs_pos {b m : Nat} (h : 0 < m) : refs b m = .ref b :: (refs b m).drop 1 := by
  have := refs_drop (b := b) (m := m) (k := 0) h
  exact this
theorem refs_zip0 {b m : Nat} (h : 0 < m) : (refs b m).zipIdx = (.ref b, 0) :: ((refs b m).drop 1).zipIdx 1 := by
  conv => lhs; rw [refs_pos h]
  rfl
theorem end_any (hh : A.handled = none) {ss : List (Addr × Array Value)} {b i : Nat} {s : Shared} {Q : Fin → Shared → Prop} (old : ∀ p ∈ ss, p.1 < b) (m0 : 0 < ss.length)
    (st : ZSt s.heap b ss i) (hs : ∀ p ∈ ss, p.2.size = i)
    (hE : ∀ h' tk e, (∀ c o, c < b ∨ b + ss.length + 2 < c → s.heap.get? c = some o → h'.get? c = some o) → (∃ o, h'.get? e = some o ∧ o.cls = .type "StopIteration") → E (.ref e) { s with heap := h', toks := tk }) :
    wpAny (model prog w) A (Builtin.«zip.__next__» ⟨[.ref (b + ss.length + 2)], []⟩) Q E s := by
  obtain ⟨hp, g, d, tk0, os⟩ := s
  obtain ⟨st, zz⟩ := st
  have p0 : @LT.lt Nat instLTNat (ss[0]).1 b := old _ (List.getElem_mem m0)
  have s0 := st.1 0 _ (List.getElem?_eq_getElem m0)
  have z0 : (ss[0]).2.size = i := hs _ (List.getElem_mem m0)
  rcases zz with ⟨rfl, hz, arr, ha, hTO⟩ | ⟨ip, T, f, oT, hz, hT, lT⟩
  · show wpAny _ _ (field (.ref (b + ss.length + 2)) 2 >>= _) _ _ _
    refine wpAny_bind (wpAny_field hz rfl (x := .bool false) rfl ?_)
    show wpAny _ _ (field (.ref (b + ss.length + 2)) 3 >>= _) _ _ _
    refine wpAny_bind (wpAny_field hz rfl (x := .ref (b + ss.length)) rfl ?_)
    refine wpAny_bind (wpAny_seqItems st.2 rfl ?_)
    simp only [refs_ne m0, Bool.false_eq_true, if_false]
    show wpAny _ _ (Builtin.SmallTypes.ownedTupleIsFree (.ref (b + ss.length + 2)) >>= _) _ _ _
    refine wpAny_bind ?_
    unfold Builtin.SmallTypes.ownedTupleIsFree
    refine wpAny_bind (wpAny_field hz rfl (x := .none) rfl (wpAny_pure ?_))
    simp only [if_true]
    refine wpAny_bind (wpAny_rule ?_)
    refine wpAny_bind (wpAny_field hz rfl (x := .ref (b + ss.length + 1)) rfl ?_)
    refine wpAny_bind (wpAny_setField_rec hz (by simp) fun g0 hz0 hs0 => ?_)
    replace hz0 : IsZip g0 (b + ss.length + 2) (b + ss.length) (b + ss.length + 1) .ellipsis := hz0
    replace hs0 : Heap.SameBut (b + ss.length + 2) hp g0 := hs0
    refine wpAny_bind ?_
    rw [refs_zip0 m0, List.forIn_cons]
    refine wpAny_bind (wpAny_bind (wpAny_onRaise ?_))
    show wpAny _ _ (Builtin.SmallTypes.nextOf (.ref b) >>= _) _ _ ⟨g0, g, d, tk0, os⟩
    refine wpAny_bind ((src_draws (xs := (ss[0]).2) (a := (ss[0]).1) hh (ad (by omega))).done ⟨g0, g, d, tk0, os⟩ _ _ (by rw [z0]; exact s0.over hs0 (ad (by omega)) (ad (by omega))) fun q e hq he => ?_)
    replace hq : Heap.ExtBut b g0 q := hq
    obtain ⟨oe, hoe, hce⟩ := he
    replace hoe : q.get? e = some oe := hoe
    have hzq : IsZip q (b + ss.length + 2) (b + ss.length) (b + ss.length + 1) .ellipsis := hq _ _ (ad (by omega)) hz0
    have hez : e ≠ b + ss.length + 2 := fun x => by subst x; rw [hzq] at hoe; cases hoe; simp at hce
    refine wpAny_setField_rec (s := ⟨q, g, d, tk0, os⟩) hzq (by simp) fun q' _ hq' => ?_
    replace hq' : Heap.SameBut (b + ss.length + 2) q q' := hq'
    exact hE q' tk0 e (fun c o hc x => hq'.extBut _ _ (ad (by omega)) (hq _ _ (ad (by omega)) (hs0.extBut _ _ (ad (by omega)) x))) ⟨oe, hq'.extBut _ _ hez hoe, hce⟩
  · show wpAny _ _ (field (.ref (b + ss.length + 2)) 2 >>= _) _ _ _
    refine wpAny_bind (wpAny_field hz rfl (x := .bool false) rfl ?_)
    show wpAny _ _ (field (.ref (b + ss.length + 2)) 3 >>= _) _ _ _
    refine wpAny_bind (wpAny_field hz rfl (x := .ref (b + ss.length)) rfl ?_)
    refine wpAny_bind (wpAny_seqItems st.2 rfl ?_)
    simp only [refs_ne m0, Bool.false_eq_true, if_false]
    show wpAny _ _ (Builtin.SmallTypes.ownedTupleIsFree (.ref (b + ss.length + 2)) >>= _) _ _ _
    refine wpAny_bind (wpAny_tupleHeld_zip hz hT fun g0 hz0 hs0 => ?_)
    replace hs0 : Heap.SameBut (b + ss.length + 2) hp g0 := hs0
    simp only [Bool.false_eq_true, if_false]
    refine wpAny_bind ?_
    rw [← Array.forIn_toList]
    rw [show (refs b ss.length).toArray.toList = .ref b :: (refs b ss.length).drop 1 from refs_pos m0]
    rw [List.forIn_cons]
    refine wpAny_bind (wpAny_bind (wpAny_holding ?_))
    show wpAny _ _ (Builtin.SmallTypes.nextOf (.ref b) >>= _) _ _ ⟨g0, g, d, tk0, os⟩
    refine wpAny_bind ((src_draws (xs := (ss[0]).2) (a := (ss[0]).1) hh (ad (by omega))).done ⟨g0, g, d, tk0, os⟩ _ _ (by rw [z0]; exact s0.over hs0 (ad (by omega)) (ad (by omega))) fun q e hq he => ?_)
    replace hq : Heap.ExtBut b g0 q := hq
    exact hE q tk0 e (fun c o hc x => hq _ _ (ad (by omega)) (hs0.extBut _ _ (ad (by omega)) x)) he
theorem turn_any (hh : A.handled = none) {ss : List (Addr × Array Value)} {b i : Nat} {vals : List Value} {s : Shared} {Q : Value → Shared → Prop} (old : ∀ p ∈ ss, p.1 < b) (m0 : 0 < ss.length) (few : ss.length ≤ 1000)
    (st : ZSt s.heap b ss i) (hv : Row ss i vals)
    (h : ∀ h' tk, ZSt h' b ss (i + 1) → h'.get? s.heap.objs.size = some { cls := .type "tuple", data := .seq vals.toArray } → h'.objs.size = s.heap.objs.size + 1 →
      (∀ c o, c < b ∨ b + ss.length + 2 < c → s.heap.get? c = some o → h'.get? c = some o) → Q (.ref s.heap.objs.size) { s with heap := h', toks := tk }) :
    wpAny (model prog w) A (Builtin.«zip.__next__» ⟨[.ref (b + ss.length + 2)], []⟩) (fun fin s' => ∃ v, fin = .done (.ret v) ∧ Q v s') E s := by
  obtain ⟨st, zz⟩ := st
  rcases zz with ⟨rfl, hz, arr, ha, hTO⟩ | ⟨ip, T, f, oT, hz, hT, lT⟩
  · have zlt : @LT.lt Nat instLTNat (b + ss.length + 2) s.heap.objs.size := Heap.lt_size hz
    exact next_free hh old m0 few hz hTO ha st hv fun h' tk q1 q2 q3 q4 q5 => h h' tk ⟨q2, .inr ⟨by omega, _, _, _, q1, q3, zlt⟩⟩ q3 q4 q5
  · have tlt : @LT.lt Nat instLTNat T s.heap.objs.size := Heap.lt_size hT
    exact next_held hh old m0 few hz hT st hv fun h' tk q1 q2 q3 q4 q5 => h h' tk ⟨q2, .inr ⟨by omega, _, _, _, q1, q5 _ _ (.inr lT) hT, lT⟩⟩ q3 q4 q5
theorem zty {h : Heap} {g : Array GenState} {d : Drawn} {tk : Nat} {os : OsState} {ss : List (Addr × Array Value)} {b i : Nat} (st : ZSt h b ss i) : (⟨h, g, d, tk, os⟩ : Shared).TypeIs (.ref (b + ss.length + 2)) "zip" := by
  rcases st.2 with ⟨_, hz, _⟩ | ⟨_, T, f, oT, hz, _⟩
  · exact ⟨_, hz, rfl⟩
  · exact ⟨_, hz, rfl⟩
theorem next_end (hh : A.handled = none) {ss : List (Addr × Array Value)} {b i : Nat} {s : Shared} {Q : Option Value → Shared → Prop} (old : ∀ p ∈ ss, p.1 < b) (m0 : 0 < ss.length)
    (st : ZSt s.heap b ss i) (hs : ∀ p ∈ ss, p.2.size = i)
    (hQ : ∀ h' tk, (∀ c o, c < b ∨ b + ss.length + 2 < c → s.heap.get? c = some o → h'.get? c = some o) → Q none { s with heap := h', toks := tk }) : wpAny (model prog w) A (pyNext (.ref (b + ss.length + 2))) Q E s := by
  have hT : s.TypeIs (.ref (b + ss.length + 2)) "zip" := zty st
  unfold pyNext
  refine wpAny_bind (wpAny_attempt (wpAny_callSpecial?_slot (name := Str.ofString "__next__") hT F.slot_zip_next
    (wpAny_call_entry F.slot_zip_next hT F.entry_zip_next (end_any (A := A.in1) (hh := hh) old m0 st hs fun h' tk e hk he => ?_) (F.args_zip_next_1 _))))
  obtain ⟨o, ho, hc⟩ := he
  refine wpAny_bind (wpAny_isInstance (T := "StopIteration") (b := true) ⟨o, ho, hc⟩ isSubtype_stop ?_)
  exact wpAny_pure (hQ _ _ hk)
theorem next_turn (hh : A.handled = none) {ss : List (Addr × Array Value)} {b i : Nat} {vals : List Value} {s : Shared} {Q : Option Value → Shared → Prop} (old : ∀ p ∈ ss, p.1 < b) (m0 : 0 < ss.length) (few : ss.length ≤ 1000)
    (st : ZSt s.heap b ss i) (hv : Row ss i vals)
    (h : ∀ h' tk, ZSt h' b ss (i + 1) → h'.get? s.heap.objs.size = some { cls := .type "tuple", data := .seq vals.toArray } → h'.objs.size = s.heap.objs.size + 1 →
      (∀ c o, c < b ∨ b + ss.length + 2 < c → s.heap.get? c = some o → h'.get? c = some o) → Q (some (.ref s.heap.objs.size)) { s with heap := h', toks := tk }) :
    wpAny (model prog w) A (pyNext (.ref (b + ss.length + 2))) Q E s := by
  have hT : s.TypeIs (.ref (b + ss.length + 2)) "zip" := zty st
  unfold pyNext
  exact wpAny_bind (wpAny_attempt (wpAny_callSpecial?_slot (name := Str.ofString "__next__") hT F.slot_zip_next
    (wpAny_call_entry F.slot_zip_next hT F.entry_zip_next (turn_any (A := A.in1) (hh := hh) old m0 few st hv fun h' tk q1 q2 q3 q4 => wpAny_pure (h h' tk q1 q2 q3 q4)) (F.args_zip_next_1 _))))
end
end ZN
namespace ZN
open PySem PySem.Spec PyProof.Rows
theorem ZSt.over {h h' : Heap} {ss : List (Addr × Array Value)} {b i S : Nat} (old : ∀ p ∈ ss, p.1 < b) (st : ZSt h b ss i) (hS : b + ss.length + 2 < S) (e : Heap.SameBut S h h') (there : ∃ o, h'.get? S = some o) : ZSt h' b ss i := by
  obtain ⟨⟨s1, s2⟩, zz⟩ := st
  refine ⟨⟨fun j p q => ?_, e.extBut _ _ (ad (by omega)) s2⟩, ?_⟩
  · have jl : j < ss.length := (List.getElem?_eq_some_iff.mp q).1
    have pj : @LT.lt Nat instLTNat p.1 b := old p (List.mem_of_getElem? q)
    exact (s1 j p q).over e (ad (by omega)) (ad (by omega))
  · rcases zz with ⟨rfl, hz, arr, ha, hTO⟩ | ⟨ip, T, f, oT, hz, hT, lT⟩
    · exact .inl ⟨rfl, e.extBut _ _ (ad (by omega)) hz, arr, ha, e.extBut _ _ (ad (by omega)) hTO⟩
    · by_cases c : T = S
      · subst c
        obtain ⟨o, ho⟩ := there
        exact .inr ⟨ip, T, f, o, e.extBut _ _ (ad (by omega)) hz, ho, lT⟩
      · exact .inr ⟨ip, T, f, oT, e.extBut _ _ (ad (by omega)) hz, e.extBut _ _ c hT, lT⟩
theorem ZSt.up {h h' : Heap} {ss : List (Addr × Array Value)} {b i : Nat} (st : ZSt h b ss i) (e : ∀ c o, h.get? c = some o → h'.get? c = some o) : ZSt h' b ss i := by
  obtain ⟨⟨s1, s2⟩, zz⟩ := st
  refine ⟨⟨fun j p q => (s1 j p q).at fun c _ o q => e _ _ q, e _ _ s2⟩, ?_⟩
  rcases zz with ⟨rfl, hz, arr, ha, hTO⟩ | ⟨ip, T, f, oT, hz, hT, lT⟩
  · exact .inl ⟨rfl, e _ _ hz, arr, ha, e _ _ hTO⟩
  · exact .inr ⟨ip, T, f, oT, e _ _ hz, e _ _ hT, lT⟩
/-- the columns -/
def Cols (ss : List (Addr × Array Value)) (cols : List (List Value)) : Prop := (∀ p ∈ ss, p.2.size = cols.length) ∧ ∀ (i : Nat) col, cols[i]? = some col → Row ss i col
abbrev lst (acc : Array Value) (c : Nat) : Obj := { cls := .type "list", dict := none, data := .seq acc c, slots := #[] }
abbrev tpl (col : List Value) : Obj := { cls := .type "tuple", data := .seq col.toArray }
section
variable {prog : Program} {w : World} {A : Around} {R : Result → Shared → Prop}
theorem zloop (hh : A.handled = none) {ss : List (Addr × Array Value)} {cols : List (List Value)} {b S T0 : Nat} {res : Value} (old : ∀ p ∈ ss, p.1 < b) (m0 : 0 < ss.length) (few : ss.length ≤ 1000) (hc : Cols ss cols) (hn : cols.length ≤ sizeLine)
    (lS : b + ss.length + 2 < S) (ST : S < T0) :
    ∀ (k i : Nat) (s : Shared) (acc : Array Value) (c : Nat), i + k = cols.length → ZSt s.heap b ss i → s.heap.get? S = some (lst acc c) → acc.toList = refs T0 i → s.heap.objs.size = T0 + i →
      (∀ (j : Nat) col, j < i → cols[j]? = some col → s.heap.get? (T0 + j) = some (tpl col)) →
      (∀ s' acc' c', s'.heap.get? S = some (lst acc' c') → acc'.toList = refs T0 cols.length → (∀ (j : Nat) col, cols[j]? = some col → s'.heap.get? (T0 + j) = some (tpl col)) →
        (∀ a o, a < b → s.heap.get? a = some o → s'.heap.get? a = some o) → s'.gens = s.gens → s'.drawn = s.drawn → s'.os = s.os → R (.ok (.ret res)) s') →
      codeAny (model prog w) A (.builtin "list.extend.loop" ⟨[.ref S, .ref (b + ss.length + 2), res], []⟩) R s := by
  intro k
  induction k with
  | zero =>
    intro i s acc c hk st hS ea sz tl hR
    have hi : i = cols.length := by omega
    subst hi
    refine codeAny_builtin F.entry_extend_loop ?_
    rw [Around.under_plainId F.plain_extend_loop _]
    show wpAny _ A.in1 (pyNext (.ref (b + ss.length + 2)) >>= _) _ _ s
    refine wpAny_bind (next_end (A := A.in1) (hh := hh) old m0 st hc.1 fun h' tk kp => ?_)
    exact wpAny_pure (hR _ acc c (kp _ _ (.inr lS) hS) ea (fun j col e => kp _ _ (.inr (by omega)) (tl j col (List.getElem?_eq_some_iff.mp e).1 e)) (fun a o l e => kp _ _ (.inl l) e) rfl rfl rfl)
  | succ k ih =>
    intro i s acc c hk st hS ea sz tl hR
    have hlt : i < cols.length := by omega
    refine codeAny_builtin F.entry_extend_loop ?_
    rw [Around.under_plainId F.plain_extend_loop _]
    show wpAny _ A.in1 (pyNext (.ref (b + ss.length + 2)) >>= _) _ _ s
    refine wpAny_bind (next_turn (A := A.in1) (hh := hh) old m0 few st (hc.2 i _ (List.getElem?_eq_getElem hlt)) fun h' tk st' hN sz' kp => ?_)
    have hS' := kp _ _ (.inr lS) hS
    have asz : acc.size = i := by rw [← Array.length_toList, ea, refs_len]
    show wpAny _ A.in1 (updateSeq S (·.push (.ref s.heap.objs.size)) >>= _) _ _ _
    refine wpAny_bind ?_
    have su : Heap.SameBut S h' (h'.update S (Obj.mapSeq (·.push (.ref s.heap.objs.size)))) := Heap.SameBut.update ..
    have hS2 : (h'.update S (Obj.mapSeq (·.push (.ref s.heap.objs.size)))).get? S = some (lst (acc.push (.ref s.heap.objs.size)) _) := Heap.get?_update_self _ hS' rfl
    refine wpAny_updateSeq hS' rfl (wpAny_pure ⟨plainId_quiet F.plain_extend_loop _, ih (i + 1) _ (acc.push (.ref s.heap.objs.size)) _ (by omega) (st'.over old lS su ⟨_, hS2⟩) hS2 ?_ ?_ (fun j col lj e => ?_) fun s' acc' c' q1 q2 q3 q4 q5 q6 q7 => ?_⟩)
      (by rw [asz]; omega) (by show (acc.push _).size ≤ sizeLine + 1; rw [Array.size_push, asz]; omega)
    · rw [Array.toList_push, ea, refs_succ, sz]
    · show (h'.update S _).objs.size = _
      rw [su.1, sz', sz]
      rfl
    · by_cases jc : j = i
      · subst jc
        rw [List.getElem?_eq_getElem hlt] at e
        cases e
        rw [sz] at hN
        exact su.extBut _ _ (ad (by omega)) hN
      · exact su.extBut _ _ (ad (by omega)) (kp _ _ (.inr (by omega)) (tl j col (by omega) e))
    · exact hR s' acc' c' q1 q2 q3 (fun a o l e => q4 a o l (su.extBut _ _ (ad (by omega)) (kp _ _ (.inl l) e))) q5 q6 q7
end
end ZN
namespace ZN
open PySem PySem.Spec PyProof.Rows
theorem no_len : typeLookup (.type "zip") "__len__" = pure none := by rw [typeLookup_type, builtinLookup_eq_fast]; kernel_rfl
theorem no_hint : typeLookup (.type "zip") "__length_hint__" = pure none := by rw [typeLookup_type, builtinLookup_eq_fast]; kernel_rfl
theorem zst_zip {h : Heap} {b : Nat} {ss : List (Addr × Array Value)} (st : ZSt h b ss 0) : IsZip h (b + ss.length + 2) (b + ss.length) (b + ss.length + 1) .none := by
  rcases st.2 with ⟨_, hz, _⟩ | ⟨bad, _⟩
  · exact hz
  · exact absurd bad (by omega)
section
variable {prog : Program} {w : World} {A : Around} {E : Value → Shared → Prop}
/-- zip of these: new things alone -/
theorem call_zip {ss : List (Addr × Array Value)} {s : Shared} {Q : Value → Shared → Prop} (few : ss.length ≤ 16) (wh : ∀ p ∈ ss, Whole s.heap p.1 p.2)
    (h : ∀ h', ZSt h' s.heap.objs.size ss 0 → h'.objs.size = s.heap.objs.size + ss.length + 3 → (∀ c o, s.heap.get? c = some o → h'.get? c = some o) → Q (.ref (s.heap.objs.size + ss.length + 2)) { s with heap := h' }) :
    wpAny (model prog w) A (call (.type "zip") (ss.map fun p => Value.ref p.1)) Q E s := by
  have lm : (ss.map fun p => Value.ref p.1).length ≤ 16 := by rw [List.length_map]; exact few
  refine callType_new (S := fun A' R s' => s' = s ∧ ∀ h', ZSt h' s.heap.objs.size ss 0 → h'.objs.size = s.heap.objs.size + ss.length + 3 → (∀ c o, s.heap.get? c = some o → h'.get? c = some o) → R (.ok (.ret (.ref (s.heap.objs.size + ss.length + 2)))) { s with heap := h' })
    F.called_zip (by decide) (tc _) (nc _ lm) (fun z => ai z _ lm) F.entry_zip_new (Meets.of_wp fun prog w A R s' hs => ?_) ⟨rfl, fun h' q1 q2 q3 => ?_⟩
  · obtain ⟨rfl, hs⟩ := hs
    refine zip_new (Nat.le_trans few (by decide)) wh fun h' al sz kp zn => ?_
    exact ⟨_, rfl, hs h' ⟨⟨al, zn.1⟩, .inl ⟨rfl, zn.2.2, _, by simp, zn.2.1⟩⟩ sz kp⟩
  · exact ⟨zty q1, h h' q1 q2 q3⟩
/-- list of a zip that has not begun -/
theorem call_list_zip (hh : A.handled = none) {ss : List (Addr × Array Value)} {cols : List (List Value)} {b : Nat} {s : Shared} {Q : Value → Shared → Prop} (old : ∀ p ∈ ss, p.1 < b) (m0 : 0 < ss.length) (few : ss.length ≤ 1000) (hc : Cols ss cols) (hn : cols.length ≤ sizeLine)
    (st : ZSt s.heap b ss 0) (lb : b + ss.length + 2 < s.heap.objs.size)
    (h : ∀ s' acc' c', s'.heap.get? s.heap.objs.size = some (lst acc' c') → acc'.toList = refs (s.heap.objs.size + 1) cols.length → (∀ (j : Nat) col, cols[j]? = some col → s'.heap.get? (s.heap.objs.size + 1 + j) = some (tpl col)) →
        (∀ a o, a < b → s.heap.get? a = some o → s'.heap.get? a = some o) → s'.gens = s.gens → s'.drawn = s.drawn → s'.os = s.os → Q (.ref s.heap.objs.size) s') :
    wpAny (model prog w) A (call (.type "list") [.ref (b + ss.length + 2)]) Q E s := by
  refine callType_codes (Q₁ := fun obj s₁ => obj = .ref s.heap.objs.size ∧ s₁ = { s with heap := s.heap.push { cls := .type "list", data := .seq #[] } }) F.called_list (F.typeCall_list_1 _) F.entry_list_init
    (code_list_new _ ⟨rfl, rfl⟩) fun obj s₁ h₁ => ?_
  obtain ⟨rfl, rfl⟩ := h₁
  have hS : (s.heap.push { cls := .type "list", data := .seq #[] }).get? s.heap.objs.size = some { cls := .type "list", data := .seq #[] } := Heap.get?_push_size _ rfl
  have up1 : ∀ c o, s.heap.get? c = some o → (s.heap.push { cls := .type "list", data := .seq #[] }).get? c = some o := fun c o e => Heap.get?_push_of_some _ e
  have st1 := st.up up1
  refine ⟨⟨_, hS, rfl⟩, F.args_list_init_2 _ _, ?_⟩
  show wpAny _ A.in1.in1 (do let old ← Builtin.List.listItems (.ref s.heap.objs.size); Builtin.List.listUpdate (.ref s.heap.objs.size) (fun _ => #[]); letGo old.toList.reverse; Builtin.List.listExtendWith (.ref s.heap.objs.size) (.ref (b + ss.length + 2)) .none) _ _ _
  refine wpAny_bind ?_
  unfold Builtin.List.listItems
  refine wpAny_bind (wpAny_seqItems hS rfl (wpAny_pure ?_))
  show wpAny _ A.in1.in1 (updateSeq s.heap.objs.size (fun _ => #[]) >>= fun _ => letGo (#[] : Array Value).toList.reverse >>= fun _ => Builtin.List.listExtendWith (.ref s.heap.objs.size) (.ref (b + ss.length + 2)) .none) _ _ _
  refine wpAny_bind (wpAny_updateSeq hS rfl ?_)
  have hS2 := Heap.get?_update_self (Obj.mapSeq (fun _ => (#[] : Array Value))) hS rfl
  have sb2 : Heap.SameBut s.heap.objs.size (s.heap.push { cls := .type "list", data := .seq #[] }) ((s.heap.push { cls := .type "list", data := .seq #[] }).update s.heap.objs.size (Obj.mapSeq (fun _ => (#[] : Array Value)))) := Heap.SameBut.update ..
  have st2 := st1.over old lb sb2 ⟨_, hS2⟩
  refine wpAny_bind (wpAny_letGo ?_)
  unfold Builtin.List.listExtendWith
  refine wpAny_bind (wpAny_typeOf (zty st2) ?_)
  have h1 : Builtin.List.listSameRef (.ref s.heap.objs.size) (.ref (b + ss.length + 2)) = false := by
    have : ¬ s.heap.objs.size = b + ss.length + 2 := by omega
    simp [Builtin.List.listSameRef, this]
  have h2 : (Value.type "zip" == Value.type "list") = false := by decide
  have h3 : (Value.type "zip" == Value.type "tuple") = false := by decide
  simp only [h1, h2, h3, Bool.or_false, Bool.false_eq_true, if_false]
  refine wpAny_bind (wpAny_pyIter_zip (s := { s with heap := _ }) (zst_zip st2) ?_)
  refine wpAny_bind (wpAny_holding ?_)
  unfold Builtin.List.listLengthHint
  refine wpAny_bind (wpAny_specialOf (zty st2) no_len ?_)
  show wpAny _ A.in1.in1 (specialOf (Value.ref (b + ss.length + 2)) (Str.ofString "__length_hint__") >>= _) _ _ _
  refine wpAny_bind (wpAny_specialOf (zty st2) no_hint ?_)
  refine wpAny_pure ?_
  show wpAny _ A.in1.in1 (rule "list.extend.makes-room" >>= fun _ => Builtin.List.listTouch (.ref s.heap.objs.size) >>= fun _ =>
    again (.builtin "list.extend.loop" ⟨[.ref s.heap.objs.size, .ref (b + ss.length + 2), .none], []⟩)) _ _ _
  refine wpAny_bind (wpAny_rule ?_)
  refine wpAny_bind ?_
  show wpAny _ A.in1.in1 (updateSeq s.heap.objs.size (·.push .none) >>= fun _ => updateSeq s.heap.objs.size (·.pop)) _ _ _
  refine wpAny_bind (wpAny_updateSeq hS2 rfl ?_)
  have hS3 := Heap.get?_update_self (Obj.mapSeq (·.push Value.none)) hS2 rfl
  refine wpAny_updateSeq (hz := by seq_fits) hS3 rfl ?_
  have hS4 := Heap.get?_update_self (Obj.mapSeq (·.pop)) hS3 rfl
  have sb3 := Heap.SameBut.update ((s.heap.push { cls := .type "list", data := .seq #[] }).update s.heap.objs.size (Obj.mapSeq (fun _ => (#[] : Array Value)))) s.heap.objs.size (Obj.mapSeq (·.push Value.none))
  have sb4 := Heap.SameBut.update (((s.heap.push { cls := .type "list", data := .seq #[] }).update s.heap.objs.size (Obj.mapSeq (fun _ => (#[] : Array Value)))).update s.heap.objs.size (Obj.mapSeq (·.push Value.none))) s.heap.objs.size (Obj.mapSeq (·.pop))
  have st3 := st2.over old lb sb3 ⟨_, hS3⟩
  have st4 := st3.over old lb sb4 ⟨_, hS4⟩
  refine wpAny_pure ⟨plainId_quiet F.plain_extend_loop _, ?_⟩
  refine zloop (A := A.in1) (S := s.heap.objs.size) (T0 := s.heap.objs.size + 1) (hh := hh) old m0 few hc hn lb (Nat.lt_succ_self _) cols.length 0 _ #[] _ (Nat.zero_add _) st4 hS4 rfl ?_ (fun j col z => absurd z (Nat.not_lt_zero _)) fun s' acc' c' q1 q2 q3 q4 q5 q6 q7 => ?_
  · show Array.size _ = _
    rw [sb4.1, sb3.1, sb2.1, Heap.size_push]
  · refine ⟨rfl, h s' acc' c' q1 q2 q3 (fun a o l e => q4 a o l ?_) q5 q6 q7⟩
    have na : a ≠ s.heap.objs.size := ad (by omega)
    exact sb4.extBut _ _ na (sb3.extBut _ _ na (sb2.extBut _ _ na (up1 _ _ e)))
end
end ZN
namespace ZN
open PySem PySem.Spec PyProof.Rows L2
/-- the i-th of each row -/
def colV (vss : List (List V)) (i : Nat) : List V := vss.map fun vs => vs.getD i .non
/-- behind list(zip(rows)): the tuples from T on, the list at S -/
def zipH (H : Hp) (S T : Nat) (vss : List (List V)) (n : Nat) : Hp := fun (p : Nat) =>
  if p = S then some (.lst ((List.range n).map fun i => V.ref (T + i))) else if T ≤ p ∧ p < T + n then some (.tup (colV vss (p - T))) else H p
section
variable {H : Hp} {S T n : Nat} {vss : List (List V)}
theorem zipH_S : zipH H S T vss n S = some (.lst ((List.range n).map fun i => V.ref (T + i))) := if_pos rfl
theorem zipH_T (l : S < T) {i : Nat} (hi : i < n) : zipH H S T vss n (T + i) = some (.tup (colV vss i)) := by
  unfold zipH
  rw [if_neg (show ¬ T + i = S by omega), if_pos ⟨by omega, by omega⟩, Nat.add_sub_cancel_left]
theorem zipH_old {p : Nat} (h1 : p ≠ S) (h2 : ¬ (T ≤ p ∧ p < T + n)) : zipH H S T vss n p = H p := by
  unfold zipH
  rw [if_neg h1, if_neg h2]
/-- what was there stays -/
theorem zipH_kp (nS : H S = none) (nT : ∀ i, i < n → H (T + i) = none) {p : Nat} {o : HO} (e : H p = some o) : zipH H S T vss n p = some o := by
  rw [zipH_old, e]
  · intro z
    subst z
    rw [nS] at e
    cases e
  · rintro ⟨z1, z2⟩
    have := nT (p - T) (by omega)
    rw [Nat.add_sub_cancel' z1, e] at this
    cases this
end
/-- rows of the heap -/
def RowsAt (K : PySem.W.Frag) (H : Hp) (rows : List Addr) (vss : List (List V)) : Prop := Paired (fun r vs => SqT K H r vs ∨ SqL K H r vs) rows vss
def tZip (K : PySem.W.Frag) (te : TE) : TE := fun σ H Q => te σ H fun v H1 => ∃ a rows vss n, v = .ref a ∧ (SqT K H1 a (rows.map V.ref) ∨ SqL K H1 a (rows.map V.ref)) ∧ RowsAt K H1 rows vss ∧ 0 < rows.length ∧ rows.length ≤ 16 ∧ (∀ vs ∈ vss, vs.length = n) ∧
  ∀ S T : Nat, H1 S = none → (∀ i, i < n → H1 (T + i) = none) → S < T → Q (.ref S) (zipH H1 S T vss n)
section
variable {X : Cx} {pins : List (Addr × Obj)} {σ : L2.St} {H : Hp} {s : Shared}
theorem srcs (I : Inv X pins σ H s) : ∀ {rows : List Addr} {vss : List (List V)}, RowsAt X.K H rows vss → ∃ ss : List (Addr × Array Value), ss.map (·.1) = rows ∧ Paired (fun vs (p : Addr × Array Value) => Vals vs p.2.toList) vss ss ∧ (∀ p ∈ ss, Whole s.heap p.1 p.2) ∧ ∀ vs ∈ vss, vs.length ≤ sizeLine
  | _, _, .nil => ⟨[], rfl, .nil, (fun _ h => nomatch h), (fun _ h => nomatch h)⟩
  | r :: rows, vs :: vss, .cons h t => by
    obtain ⟨ss, e, p, w, l⟩ := srcs I t
    rcases h with h | h
    · obtain ⟨its, rv, hp, z⟩ := I.tuple h
      refine ⟨(r, its.toArray) :: ss, by rw [List.map_cons, e], .cons (by simpa using rv) p, fun q hq => ?_, fun q hq => ?_⟩
      · rcases List.mem_cons.mp hq with rfl | hq
        · exact .inr hp
        · exact w q hq
      · rcases List.mem_cons.mp hq with rfl | hq
        · exact z
        · exact l q hq
    · obtain ⟨its, rv, hp, z⟩ := I.list h
      refine ⟨(r, its.toArray) :: ss, by rw [List.map_cons, e], .cons (by simpa using rv) p, fun q hq => ?_, fun q hq => ?_⟩
      · rcases List.mem_cons.mp hq with rfl | hq
        · exact .inl hp.isList
        · exact w q hq
      · rcases List.mem_cons.mp hq with rfl | hq
        · exact z
        · exact l q hq
def colC (ss : List (Addr × Array Value)) (i : Nat) : List Value := ss.map fun p => p.2.toList.getD i .none
theorem colC_vals {n i : Nat} (hi : i < n) : ∀ {vss : List (List V)} {ss : List (Addr × Array Value)}, Paired (fun vs (p : Addr × Array Value) => Vals vs p.2.toList) vss ss → (∀ vs ∈ vss, vs.length = n) → Vals (colV vss i) (colC ss i)
  | _, _, .nil, _ => .nil
  | vs :: vss, p :: ss, .cons h t, hl => by
    refine .cons ?_ (colC_vals hi t fun q hq => hl q (List.mem_cons_of_mem _ hq))
    have li : i < vs.length := by rw [hl vs (List.mem_cons_self ..)]; exact hi
    obtain ⟨u, e, r⟩ := Vals.get h (List.getElem?_eq_getElem li)
    have e1 : vs.getD i .non = vs[i] := by simp [li]
    have e2 : p.2.toList.getD i .none = u := by rw [List.getD_eq_getElem?_getD, e]; rfl
    show L2.RelV (vs.getD i .non) (p.2.toList.getD i .none)
    rw [e1, e2]
    exact r
theorem szs {n : Nat} : ∀ {vss : List (List V)} {ss : List (Addr × Array Value)}, Paired (fun vs (p : Addr × Array Value) => Vals vs p.2.toList) vss ss → (∀ vs ∈ vss, vs.length = n) → ∀ p ∈ ss, p.2.size = n
  | _, _, .nil, _, p, hp => nomatch hp
  | vs :: vss, q :: ss, .cons h t, hl, p, hp => by
    rcases List.mem_cons.mp hp with rfl | hp
    · have := h.length
      rw [hl vs (List.mem_cons_self ..), Array.length_toList] at this
      exact this.symm
    · exact szs t (fun q hq => hl q (List.mem_cons_of_mem _ hq)) p hp
theorem cols_of {n : Nat} {ss : List (Addr × Array Value)} (h : ∀ p ∈ ss, p.2.size = n) : Cols ss ((List.range n).map (colC ss)) := by
  refine ⟨fun p hp => by rw [List.length_map, List.length_range]; exact h p hp, fun i col e => ?_⟩
  have li : i < n := by
    have := (List.getElem?_eq_some_iff.mp e).1
    rwa [List.length_map, List.length_range] at this
  rw [List.getElem?_map, List.getElem?_range li] at e
  cases e
  refine ⟨by unfold colC; rw [List.length_map], fun j p ej => ?_⟩
  have := h p (List.mem_of_getElem? ej)
  refine ⟨p.2.toList.getD i .none, ?_, ?_⟩
  · have l2 : i < p.2.size := by omega
    simp [l2]
  · unfold colC
    rw [List.getElem?_map, ej]
    rfl
theorem vals_refs {T : Nat} : ∀ n : Nat, Vals ((List.range n).map fun i => V.ref (T + i)) (refs T n) := by
  intro n
  induction n with
  | zero => exact .nil
  | succ n ih =>
    rw [refs_succ, List.range_succ, List.map_append]
    exact ih.append (.cons rfl .nil)
/-- the heap behind it is held -/
theorem laid_zip {s' : Shared} {S T n c : Nat} {acc : Array Value} {vss : List (List V)} {ss : List (Addr × Array Value)} (I : Inv X pins σ H s) (hn : n ≤ sizeLine) (lS : s.heap.objs.size ≤ S) (ST : S < T) (pv : Paired (fun vs (p : Addr × Array Value) => Vals vs p.2.toList) vss ss) (hl : ∀ vs ∈ vss, vs.length = n) (few : vss.length ≤ 16)
    (hS : s'.heap.get? S = some (ZN.lst acc c)) (ea : acc.toList = refs T n) (ht : ∀ i, i < n → s'.heap.get? (T + i) = some (tpl (colC ss i))) (kp : ∀ a o, s.heap.get? a = some o → s'.heap.get? a = some o) (hg : s'.gens = s.gens) (ho : s'.os = s.os) : Inv X pins σ (zipH H S T vss n) s' := by
  have nS : H S = none := I.hok.fresh lS
  have nT : ∀ i, i < n → H (T + i) = none := fun i _ => I.hok.fresh (by omega)
  refine I.call' (ch := []) ho ⟨fun b o q _ _ _ => kp b o q, fun b o q _ _ _ => ⟨o.slots, kp b o q⟩, fun b o q n0 _ => ?_, fun b o q _ => ⟨o, kp b o q⟩, fun b xs q => zipH_kp nS nT q, fun b o u q => zipH_kp nS nT q, fun b ps q => ⟨#[], by rw [zipH_kp nS nT q]; simp⟩⟩ (fun (b : Nat) o q => ?_) (by rw [hg]; exact I.bare) (fun b hb => nomatch hb)
  · have lt : @LT.lt Nat instLTNat b s.heap.objs.size := Heap.lt_size q
    rw [zipH_old (p := b) (ad (by omega)) (by omega)]
    exact n0
  · by_cases c1 : b = S
    · subst c1
      rw [zipH_S] at q
      cases q
      refine ⟨by rw [List.length_map, List.length_range]; exact hn, refs T n, c, vals_refs n, ?_⟩
      rw [hS, ← ea]
    · by_cases c2 : T ≤ b ∧ b < T + n
      · have e : b = T + (b - T) := by omega
        have li : b - T < n := by omega
        rw [e] at q ⊢
        rw [zipH_T ST li] at q
        cases q
        refine ⟨by unfold colV; rw [List.length_map]; exact Nat.le_trans few (by decide), colC ss (b - T), colC_vals li pv hl, ?_⟩
        exact ⟨_, ht _ li, rfl, _, rfl⟩
      · rw [zipH_old c1 c2] at q
        exact (I.hok b o q).stay (fun b' u _ e => kp b' u e) (fun d z => zipH_kp nS nT z) fun d xs z => zipH_kp nS nT z
end
end ZN
namespace ZN
open PySem PySem.Spec PyProof.Rows L2
section
variable {X : Cx} {te : TE} {e : Expr} {sp p p' pos pos' : Pos}
theorem kz {M : Model} (h : Heap) : ∃ k, (k = Keeper.frame ∨ k = Keeper.machine ∨ k = Keeper.boundFrame) ∧ PySem.W.Looks M h (keeperOf (.type "zip")) k := ⟨.machine, .inr (.inl rfl), PySem.W.Looks.of_pure rfl⟩
theorem refs_eq : ∀ {rows : List Addr} {us : List Value}, Vals (rows.map V.ref) us → us = rows.map Value.ref
  | [], _, .nil => rfl
  | r :: rows, _, .cons (b := u) h t => by
    obtain rfl : u = Value.ref r := h
    rw [refs_eq t]
    rfl
/-- list(zip( *e)) -/
theorem pe_listZip (hc : X.calm = true) (hg : Gl X "list") (hm : X.mg "list" = none) (hg' : Gl X "zip") (hm' : X.mg "zip" = none) (he : PE X e te)
    (ns : starEach [.Starred e sp] X.env = [(true, eval e X.env)] := by rfl) (na : starEach [.Call (.Name "zip" p') [.Starred e sp] [] pos'] X.env = (false, eval (.Call (.Name "zip" p') [.Starred e sp] [] pos') X.env) :: starEach [] X.env := by rfl) :
    PE X (.Call (.Name "list" p) [.Call (.Name "zip" p') [.Starred e sp] [] pos'] [] pos) (tZip X.K te) := by
  refine ⟨fun pins s σ H Q I h => ?_⟩
  refine Call_ (ld_blt I hg hm boot_list (PyProof.Rows.callWith_type1 (args_cons (?_) na) na))
  refine Call_ (ld_blt I hg' hm' PyProof.Rows.boot_zip ?_)
  rw [ns]
  refine PySem.W.ks_call (P := fun _ => True) rfl (fun h _ => kz h) (PySem.W.ks_lone (thn (he.run pins s σ H _ I h) fun v s1 ⟨y, H1, I1, ry, a, rows, vss, n, ey, hx, hr, r0, r16, hl, q⟩ => ?_))
  subst ey
  obtain rfl : v = Value.ref a := ry
  refine StX.star_any I1 hx fun us s2 I2 rv => ⟨trivial, ?_⟩
  obtain ⟨ss, es, pv, wh, zl⟩ := srcs I2 hr
  have eu : us = ss.map fun p => Value.ref p.1 := by
    rw [show (ss.map fun p => Value.ref p.1) = rows.map Value.ref by rw [← es, List.map_map]; rfl]
    exact refs_eq rv
  subst eu
  have ls : ss.length = rows.length := by rw [← es, List.length_map]
  refine call_zip (by omega) wh fun h' st sz kp => ?_
  refine args_nil ?_
  have lv := pv.length
  have ls' : ss.length ≤ 16 := by omega
  have m0 : 0 < ss.length := by omega
  have old : ∀ p ∈ ss, p.1 < s2.heap.objs.size := fun p hp => (wh p hp).lt
  have nn : n ≤ sizeLine := by
    cases vss with
    | nil => simp at lv; omega
    | cons vs vss => rw [← hl vs (List.mem_cons_self ..)]; exact zl vs (List.mem_cons_self ..)
  have cn : ((List.range n).map (colC ss)).length = n := by rw [List.length_map, List.length_range]
  refine call_list_zip (cols := (List.range n).map (colC ss)) (hh := I2.ok.hd hc) old m0 (by omega) (cols_of (szs pv hl)) (by rw [cn]; exact nn) st (by show _ < h'.objs.size; omega) fun s' acc c q1 q2 q3 q4 q5 q6 q7 => ?_
  rw [cn] at q2
  have bz : s2.heap.objs.size ≤ h'.objs.size := by omega
  refine ⟨.ref h'.objs.size, zipH H1 h'.objs.size (h'.objs.size + 1) vss n, laid_zip I2 nn bz (Nat.lt_succ_self _) pv hl (by omega) q1 q2 (fun i hi => q3 i _ ?_) (fun a o e => q4 a o (Heap.lt_size e) (kp a o e)) q5 q7, rfl, q _ _ (I2.hok.fresh bz) (fun i _ => I2.hok.fresh (by omega)) (Nat.lt_succ_self _)⟩
  rw [List.getElem?_map, List.getElem?_range hi]
  rfl
end
end ZN

namespace Toy
open PySem L2
/-! ### kinds stay -/
theorem tyX_same {K : PySem.W.Frag} {H H' : Hp} {x : V} {t : Value} (h : TyX K H x t) (s : Same H H') : TyX K H' x t := by
  cases h with
  | base b =>
    refine .base ?_
    cases b with
    | non => exact .non
    | bl x => exact .bl x
    | int i => exact .int i
    | str x => exact .str x
    | flt x => exact .flt x
    | lst e => exact .lst (s _ _ e)
    | frz e => exact .frz (s _ _ e)
    | tup e => exact .tup (s _ _ e)
    | dK e => exact .dK (s _ _ e)
    | dT e => exact .dT (s _ _ e)
    | ins e cl a n k m => exact .ins (s _ _ e) cl a n k m
  | byt b => exact .byt b
  | set e => exact .set (s _ _ e)
  | kList e c => exact .kList e c
  | kTuple e c => exact .kTuple e c
  | kDict e c => exact .kDict e c
  | fTuple e => exact .fTuple (s _ _ e)
  | fDict e => exact .fDict (s _ _ e)

/-! ### new objects leave the old ones -/
theorem same_upd {H : Hp} {p : Addr} {o : HO} (h : H p = none) : Same H (upd H p o) := fun b u e => by rw [upd_ne (ne_of_none e h)]; exact e
theorem same_put {H H' : Hp} {d : Addr} {o : HO} (s : Same H H') (n : H d = none) : Same H (upd H' d o) := fun b u e => by rw [upd_ne (ne_of_none e n)]; exact s _ _ e

/-! ### all but one object stays -/
def Kx (x : Addr) (H H' : Hp) : Prop := ∀ b o, b ≠ x → H b = some o → H' b = some o
theorem Kx.trans {x : Addr} {H H1 H2 : Hp} (a : Kx x H H1) (b : Kx x H1 H2) : Kx x H H2 := fun c o n e => b c o n (a c o n e)
theorem Same.kx {x : Addr} {H H' : Hp} (s : Same H H') : Kx x H H' := fun b o _ e => s b o e
theorem kx_upd {x : Addr} {H : Hp} {o : HO} : Kx x H (upd H x o) := fun b u n e => by rw [upd_ne n]; exact e
theorem putF_none {f : Str} {v : V} : putF f v [] = [(f, v)] := rfl
theorem putF_ne {f g : Str} {u v : V} {r : List (Str × V)} (n : g ≠ f) : putF f v ((g, u) :: r) = (g, u) :: putF f v r := if_neg n
theorem lk_ne {f g : Str} {v : V} {r : List (Str × V)} (h : (f == g) = false) : List.lookup f ((g, v) :: r) = List.lookup f r := by simp [List.lookup, h]
theorem lk_eq {f : Str} {v : V} {r : List (Str × V)} : List.lookup f ((f, v) :: r) = some v := by simp [List.lookup]
theorem d_iTup {K : PySem.W.Frag} {tl : TE} {R : It → Hp → Prop} {σ : L2.St} {H : Hp} (h : tl σ H fun x H1 => ∃ a, x = .ref a ∧ (∃ xs, SqT K H1 a xs) ∧ R (Itt K a) H1) : iTup K tl σ H R := h
theorem kit_selfR {K : PySem.W.Frag} {t : Value} : PySem.W.kitOne K t t = some true := by
  unfold PySem.W.kitOne
  rw [if_pos (by simp)]

/-! ### rows -/
theorem kitA_list {K : PySem.W.Frag} : PySem.W.kitAny K (.type "list") [.type "list", .type "tuple"] = some true := by
  unfold PySem.W.kitAny
  rw [kit_ty (r := true) (by decide +kernel)]
theorem kitA_tuple {K : PySem.W.Frag} : PySem.W.kitAny K (.type "tuple") [.type "list", .type "tuple"] = some true := by
  unfold PySem.W.kitAny
  rw [kit_ty (r := false) (by decide +kernel)]
  unfold PySem.W.kitAny
  rw [kit_ty (r := true) (by decide +kernel)]
def spIsRow (K : PySem.W.Frag) : Sp := fun vs H Q _ => ∃ (x : V) (t : Value) (b : Bool), vs = [x] ∧ TyX K H x t ∧ PySem.W.kitAny K t [.type "list", .type "tuple"] = some b ∧ ∀ H', Same H H' → Q (.bl b) H'
section
variable {P : Program} {w : World} {K : PySem.W.Frag} {mg : Str → Option Value} {base : Heap}
theorem ok_is_row (T : Top K mg) : FnOk P w K mg base CX0 1 T.f_is_row T.fd_is_row ["thing"] (spIsRow K) := by
  refine T.F_is_row.ok sc_is_row (fun vs H Q E h => ?_) (fun cdv A outer s H vs Q E hr h => ?_)
  · obtain ⟨x, t, b, rfl, _⟩ := h; rfl
  · obtain ⟨x, t, b, rfl, ty, e, k⟩ := h
    refine ⟨_, (pss_one (ps_ret (pe_callB call_isiT (by rfl) T.n_isinstance (by decide +kernel) (pa_cons (pv 0) (pa_cons (pe_tup (pa_cons (pe_bltn (v := V.ty "list") (by rfl) T.n_list (by decide +kernel) rfl) (pa_cons (pe_bltn (v := V.ty "tuple") (by rfl) T.n_tuple (by decide +kernel) rfl) pa_nil))) pa_nil))))), ?_⟩
    walk_at "rd"
    refine ⟨by show 2 ≤ sizeLine; decide, fun tp htp => ?_⟩
    walk_at "rd"
    exact ⟨x, tp, _, t, _, b, rfl, upd_same, .cons (.ty _) (.cons (.ty _) .nil), tyX_same ty (same_upd htp), e, k _ (same_upd htp)⟩
end

/-! ### errors with a value -/
def spWE (K : PySem.W.Frag) : Sp := fun vs H Q _ => ∃ (a C : Addr) (v : V), vs = [.ref a, v] ∧ OexC K C ∧ PySem.W.findIn K (.ref C) "value" = some none ∧ H a = some (exo a C none) ∧
  ∀ d, H d = none → d ≠ a → Q .non (upd (upd H d (exd d [("value", v)])) a (exo a C (some d)))
/-- an error's own dict, with its value -/
def ErrD (v : V) : HO := .xd [(("value" : Str), v)]
theorem errD_v (v : V) : List.lookup ("value" : Str) [(("value" : Str), v)] = some v := by simp [List.lookup]
section
variable {P : Program} {w : World} {K : PySem.W.Frag} {mg : Str → Option Value} {base : Heap}
theorem ok_WayError__init (T : Top K mg) : FnOk P w K mg base CX0 1 T.f_WayError__init T.fd_WayError__init ["self", "value"] (spWE K) := by
  refine T.F_WayError__init.ok sc_WayError__init (fun vs H Q E h => ?_) (fun cdv A outer s H vs Q E hr h => ?_)
  · obtain ⟨a, C, v, rfl, _⟩ := h; rfl
  · obtain ⟨a, C, v, rfl, oc, nv, ha, q⟩ := h
    refine ⟨_, (pss_one (ps_ost (pv 0) (pv 1))), ?_⟩
    exact ⟨_, rfl, _, rfl, a, C, rfl, oc, nv, .inl ⟨ha, fun d hd ne => q d hd ne⟩⟩
end
/-- what is asked where such an error is raised -/
theorem d_mkO {K : PySem.W.Frag} {H : Hp} {C : Addr} {v : V} {R : XK} (oc : OexC K C) (nv : PySem.W.findIn K (.ref C) "value" = some none) (k : ∀ d, H d = none → R (.ref C) (some d) (upd H d (ErrD v))) :
    [v].length ≤ 1000 ∧ ∀ a, H a = none → spWE K (.ref a :: ([v] ++ [])) (upd H a (exo a C none))
      (fun u H2 => u = .non ∧ ∃ (d : Addr) (fs : List (Str × V)), H2 a = some (exo a C (some d)) ∧ H2 d = some (exd d fs) ∧ H d = none ∧ R (.ref C) (some d) (upd (del H2 a) d (.xd fs))) (fun _ _ _ => False) := by
  refine ⟨by simp, fun a ha => ⟨a, C, v, rfl, oc, nv, upd_same, fun d hd ne => ⟨rfl, d, [(("value" : Str), v)], upd_same, ?_, ?_, ?_⟩⟩⟩
  · rw [upd_ne ne, upd_same]
  · rw [upd_ne ne] at hd; exact hd
  · have hd0 : H d = none := by rw [upd_ne ne] at hd; exact hd
    have e : upd (del (upd (upd (upd H a (exo a C none)) d (exd d [("value", v)])) a (exo a C (some d))) a) d (.xd [("value", v)]) = upd H d (ErrD v) := by
      funext b
      by_cases hb : b = d
      · subst hb; rw [upd_same, upd_same]; rfl
      · rw [upd_ne hb, upd_ne hb]
        by_cases hba : b = a
        · subst hba; rw [del_same, ha]
        · rw [del_ne hba, upd_ne hba, upd_ne hb, upd_ne hba]
    rw [e]; exact k d hd0
theorem d_raise {K : PySem.W.Frag} {σ : L2.St} {H : Hp} {C : Addr} {ta : TA} {R : XK} (h : ta σ H fun vs H1 => vs.length ≤ 1000 ∧ ∀ a, H1 a = none → spWE K (.ref a :: (vs ++ [])) (upd H1 a (exo a C none))
      (fun u H2 => u = .non ∧ ∃ (d : Addr) (fs : List (Str × V)), H2 a = some (exo a C (some d)) ∧ H2 d = some (exd d fs) ∧ H1 d = none ∧ R (.ref C) (some d) (upd (del H2 a) d (.xd fs))) (fun _ _ _ => False)) :
    tMkO C (spWE K) [] ta σ H R := h

/-! ### integers -/
/-- whether x is an integer (a flag is none) -/
def IsI (K : PySem.W.Frag) (H : Hp) (x : V) (b : Bool) : Prop := ∃ (t : Value) (b1 b2 : Bool), TyX K H x t ∧ PySem.W.kitOne K t (.type "int") = some b1 ∧ PySem.W.kitOne K t (.type "bool") = some b2 ∧ b = (b1 && !b2)
theorem isI_int {K : PySem.W.Frag} {H : Hp} (i : Int) : IsI K H (.int i) true := ⟨.type "int", true, false, .base (.int i), kit_ty (by decide +kernel), kit_ty (by decide +kernel), rfl⟩
theorem isI_bl {K : PySem.W.Frag} {H : Hp} (i : Bool) : IsI K H (.bl i) false := ⟨.type "bool", true, true, .base (.bl i), kit_ty (by decide +kernel), kit_ty (by decide +kernel), rfl⟩
theorem isI_non {K : PySem.W.Frag} {H : Hp} : IsI K H .non false := ⟨.type "NoneType", false, false, .base .non, kit_ty (by decide +kernel), kit_ty (by decide +kernel), rfl⟩
theorem isI_str {K : PySem.W.Frag} {H : Hp} (z : Str) : IsI K H (.str z) false := ⟨.type "str", false, false, .base (.str z), kit_ty (by decide +kernel), kit_ty (by decide +kernel), rfl⟩
theorem isI_lst {K : PySem.W.Frag} {H : Hp} {a : Addr} {xs : List V} (e : H a = some (.lst xs)) : IsI K H (.ref a) false := ⟨.type "list", false, false, .base (.lst e), kit_ty (by decide +kernel), kit_ty (by decide +kernel), rfl⟩
theorem isI_tup {K : PySem.W.Frag} {H : Hp} {a : Addr} {xs : List V} (e : H a = some (.tup xs)) : IsI K H (.ref a) false := ⟨.type "tuple", false, false, .base (.tup e), kit_ty (by decide +kernel), kit_ty (by decide +kernel), rfl⟩
theorem isI_dK {K : PySem.W.Frag} {H : Hp} {a : Addr} {xs : List (Key × V)} (e : H a = some (.dK xs)) : IsI K H (.ref a) false := ⟨.type "dict", false, false, .base (.dK e), kit_ty (by decide +kernel), kit_ty (by decide +kernel), rfl⟩
def spIsInt (K : PySem.W.Frag) : Sp := fun vs H Q _ => ∃ (x : V) (b : Bool), vs = [x] ∧ IsI K H x b ∧ Q (.bl b) H
section
variable {P : Program} {w : World} {K : PySem.W.Frag} {mg : Str → Option Value} {base : Heap}
theorem ok_is_integer (T : Top K mg) : FnOk P w K mg base CX0 1 T.f_is_integer T.fd_is_integer ["thing"] (spIsInt K) := by
  refine T.F_is_integer.ok sc_is_integer (fun vs H Q E h => ?_) (fun cdv A outer s H vs Q E hr h => ?_)
  · obtain ⟨x, b, rfl, _⟩ := h; rfl
  · obtain ⟨x, b, rfl, ⟨t, b1, b2, ty, e1, e2, eb⟩, q⟩ := h
    refine ⟨_, (pss_one (ps_ret (pe_and (pe_callB call_isi (by rfl) T.n_isinstance (by decide +kernel) (pa_cons (pv 0) (pa_cons (pe_bltn (v := V.ty "int") (by rfl) T.n_int (by decide +kernel) rfl) pa_nil))) (pe_one (pe_not (pe_callB call_isi (by rfl) T.n_isinstance (by decide +kernel) (pa_cons (pv 0) (pa_cons (pe_bltn (v := V.ty "bool") (by rfl) T.n_bool (by decide +kernel) rfl) pa_nil)))))))), ?_⟩
    walk_at "rd"
    refine RD.d_isi (.ty _) ty e1 ?_
    walk_at "rd"
    cases b1 with
    | false =>
      walk_at "rd"
      rw [eb] at q; exact q
    | true =>
      walk_at "rd"
      refine RD.d_isi (.ty _) ty e2 ?_
      walk_at "rd"
      rw [eb] at q
      simpa using q
end

/-! ### sizes and places -/
/-- whether v is a number below n -/
def Bl (K : PySem.W.Frag) (H : Hp) (n : Nat) (v : V) (b : Bool) : Prop := ∃ d, OQ.Dqd K H v d ∧ b = RK.belowB n d
theorem Bl.same {K : PySem.W.Frag} {H H' : Hp} {n : Nat} {v : V} {b : Bool} (h : Bl K H n v b) (s : Same H H') : Bl K H' n v b := by
  obtain ⟨d, h1, h2⟩ := h
  exact ⟨d, OQ.Dqd.same s h1, h2⟩
theorem Bl.dq {K : PySem.W.Frag} {H : Hp} {n : Nat} {v : V} {d : PyData} (h : OQ.Dqd K H v d) : Bl K H n v (RK.belowB n d) := ⟨d, h, rfl⟩
theorem Bl.nat {K : PySem.W.Frag} {H : Hp} {n : Nat} {v : V} (h : Bl K H n v true) : ∃ i : Nat, v = .int i ∧ i < n := by
  obtain ⟨d, h1, h2⟩ := h
  have h1 := OQ.dqd_below h1 h2.symm
  cases h1 with
  | int i =>
    have := of_decide_eq_true (h2.symm : decide (0 ≤ i ∧ i < (n : Int)) = true)
    exact ⟨i.toNat, by rw [Int.toNat_of_nonneg this.1], by omega⟩
  | _ => cases h2
theorem Bl.of {K : PySem.W.Frag} {H : Hp} {n i : Nat} (h : i < n) : Bl K H n (.int i) true := ⟨_, .int i, (decide_eq_true (by omega)).symm⟩
def spBelow (K : PySem.W.Frag) : Sp := fun vs H Q _ => ∃ (n : Nat) (x : V) (b : Bool), vs = [.int n, x] ∧ Bl K H n x b ∧ Q (.bl b) H
def spSide (K : PySem.W.Frag) : Sp := fun vs H Q _ => ∃ (n : Nat) (x : V) (d : PyData), vs = [.int n, x] ∧ n ≤ 16 ∧ OQ.Dqd K H x d ∧ ∀ H', Same H H' → Q (.bl (RK.sideB n d)) H'
def spSquare (K : PySem.W.Frag) : Sp := fun vs H Q _ => ∃ (n : Nat) (x : V) (d : PyData), vs = [.int n, x] ∧ n ≤ 16 ∧ OQ.Dqd K H x d ∧ ∀ H', Same H H' → Q (.bl (RK.squareB n d)) H'
section
variable {P : Program} {w : World} {K : PySem.W.Frag} {mg : Str → Option Value} {base : Heap}
theorem ok_is_below (T : Top K mg) : FnOk P w K mg base CX0 2 T.f_is_below T.fd_is_below ["many", "thing"] (spBelow K) := by
  refine T.F_is_below.ok sc_is_below (fun vs H Q E h => ?_) (fun cdv A outer s H vs Q E hr h => ?_)
  · obtain ⟨n, x, d, rfl, _⟩ := h; rfl
  · obtain ⟨n, x, b, rfl, hb, k⟩ := h
    refine ⟨_, (pss_one (ps_ret (pe_and (pe_call (ok_is_integer T) (hr.mono (by decide)) (by rfl) T.g_is_integer T.F_is_integer.kp T.b_is_integer .nil pass0 (pa_cons (pv 1) pa_nil)) (pe_one (pe_chain op_le op_lt pe_int (pv 1) (pv 0)))))), ?_⟩
    walk_at "tx"
    obtain ⟨d, hd, rfl⟩ := hb
    · refine ⟨x, RK.intB d, rfl, OQ.dqd_isInt hd, ?_⟩
      cases hb : RK.intB d with
      | false =>
        refine ⟨false, rfl, RD.d_iteF ?_⟩
        have e : RK.belowB n d = false := by cases d <;> first | rfl | cases hb
        rw [e] at k
        exact k
      | true =>
        refine ⟨true, rfl, RD.d_iteT ?_⟩
        cases hd with
        | int i =>
          refine RD.d_chain ?_
          walk_at "tx"
          have e : RK.belowB n (.int i) = decide (0 ≤ i ∧ i < n) := rfl
          rw [e] at k
          refine RD.iteD (fun c1 => ?_) (fun c1 => ?_)
          · walk_at "tx"
            rw [show decide (i < (n : Int)) = decide (0 ≤ i ∧ i < (n : Int)) from by rw [decide_eq_decide]; exact ⟨fun z => ⟨c1, z⟩, fun z => z.2⟩]
            exact k
          · rw [decide_eq_false (fun z => c1 z.1)] at k
            exact k
        | _ => cases hb
theorem ok_is_side (T : Top K mg) : FnOk P w K mg base CX0 4 T.f_is_side T.fd_is_side ["many", "thing"] (spSide K) := by
  refine T.F_is_side.ok sc_is_side (fun vs H Q E h => ?_) (fun cdv A outer s H vs Q E hr h => ?_)
  · obtain ⟨n, x, d, rfl, _⟩ := h; rfl
  · obtain ⟨n, x, d, rfl, n16, hd, k⟩ := h
    refine ⟨_, (pss_one (ps_ret (pe_and (pe_call (ok_is_row T) (hr.mono (by decide)) (by rfl) T.g_is_row T.F_is_row.kp T.b_is_row .nil pass0 (pa_cons (pv 1) pa_nil)) (pe_and (pe_cmpR op_eq (pe_callB RD.c_len (by rfl) T.n_len (by decide +kernel) (pa_cons (pv 1) pa_nil)) (pv 0) (nomark _)) (pe_one (pe_callB (cr_all rfl) (by rfl) T.n_all (by decide +kernel) (pa_cons (pe_lc (own := [("item", 2)]) (g := (gName 2)) (tt := tYes) rfl sc_is_side.nd (OQ.pi_seq (pv 1)) (blkOk_by (own := [("item", 2)]) (N := ["many", "thing", "item"]) (sc := defScope s_is_side) (by decide +kernel)) (fun _ _ _ _ _ => (pg_name (i := 2) sc_is_side.nd rfl (Or.inl rfl))) (fun _ _ _ _ _ => pts_nil) (fun _ _ _ _ _ => (pe_call (ok_is_below T) (hr.mono (by decide)) (by rfl) T.g_is_below T.F_is_below.kp T.b_is_below .nil pass0 (pa_cons (pv 0) (pa_cons (pv 2) pa_nil))))) pa_nil))))))), ?_⟩
    walk_at "tx"
    obtain ⟨t, ty, ek⟩ := OQ.dqd_isRow hd
    refine ⟨x, t, _, rfl, ty, ek, fun H1 s1 => ?_⟩
    replace hd := OQ.Dqd.same s1 hd
    cases er : RK.rowsOf d with
    | none =>
      have e : RK.sideB n d = false := by unfold RK.sideB; rw [er]
      rw [e] at k
      exact ⟨false, rfl, RD.d_iteF (k H1 s1)⟩
    | some ds =>
      have e : RK.sideB n d = (decide (ds.length = n) && ds.all (RK.belowB n)) := by unfold RK.sideB; rw [er]
      rw [e] at k
      obtain ⟨a, xs, rfl, sa, da⟩ := OQ.dqd_row hd er
      have len := OQ.dqdAll_len da
      refine ⟨true, rfl, RD.d_iteT ?_⟩
      walk_at "tx"
      refine sa.len ?_
      walk_at "tx"
      rw [len]
      refine RD.iteD (fun c => ?_) (fun c => ?_)
      · have c' : ds.length = n := by omega
        rw [decide_eq_true c', Bool.true_and] at k
        walk_at "tx"
        refine OQ.d_seqVar rfl sa (fun J G hw hG => fun D hD => ?_)
        have sD := same_upd (o := HO.lst []) hD
        refine lc_it hw (fun i H' => Same H1 H' ∧ H' D = some (.lst (((ds.take i).map (RK.belowB n)).map V.bl))) ⟨sD, upd_same⟩ (fun i H' _ q => hG _ q.1) ?_ ?_
        · rintro i y H' H'' il ⟨s2, eD⟩ ⟨rfl, e2⟩
          obtain ⟨d', q1, q2⟩ := OQ.dqdAll_get da e2
          walk_at "tx"
          refine ⟨n, y, _, rfl, ⟨d', OQ.Dqd.same s2 q2, rfl⟩, ?_⟩
          have il' : i < ds.length := by rw [← len]; exact il
          refine ⟨_, eD, by rw [List.length_map, List.length_map, List.length_take]; exact Nat.lt_of_le_of_lt (by omega : _ ≤ 16) (by decide), fun b u e => ?_, ?_⟩
          · rw [upd_ne (ne_of_none e hD)]; exact s2 _ _ e
          · rw [upd_same, List.take_succ, q1, List.map_append, List.map_append]; rfl
        · rintro H' ⟨s2, eD⟩
          rw [len, List.take_length] at eD
          walk_at "tx"
          refine ⟨D, _, rfl, SqL.of eD, ?_⟩
          rw [List.all_map]
          exact k _ (s1.trans s2)
      · rw [decide_eq_false (fun z => c (by omega)), Bool.false_and] at k
        exact k H1 s1
theorem ok_is_square (T : Top K mg) : FnOk P w K mg base CX0 6 T.f_is_square T.fd_is_square ["many", "thing"] (spSquare K) := by
  refine T.F_is_square.ok sc_is_square (fun vs H Q E h => ?_) (fun cdv A outer s H vs Q E hr h => ?_)
  · obtain ⟨n, x, d, rfl, _⟩ := h; rfl
  · obtain ⟨n, x, d, rfl, n16, hd, k⟩ := h
    refine ⟨_, (pss_one (ps_ret (pe_and (pe_call (ok_is_row T) (hr.mono (by decide)) (by rfl) T.g_is_row T.F_is_row.kp T.b_is_row .nil pass0 (pa_cons (pv 1) pa_nil)) (pe_and (pe_cmpR op_eq (pe_callB RD.c_len (by rfl) T.n_len (by decide +kernel) (pa_cons (pv 1) pa_nil)) (pv 0) (nomark _)) (pe_one (pe_callB (cr_all rfl) (by rfl) T.n_all (by decide +kernel) (pa_cons (pe_lc (own := [("row", 2)]) (g := (gName 2)) (tt := tYes) rfl sc_is_square.nd (OQ.pi_seq (pv 1)) (blkOk_by (own := [("row", 2)]) (N := ["many", "thing", "row"]) (sc := defScope s_is_square) (by decide +kernel)) (fun _ _ _ _ _ => (pg_name (i := 2) sc_is_square.nd rfl (Or.inl rfl))) (fun _ _ _ _ _ => pts_nil) (fun _ _ _ _ _ => (pe_call (ok_is_side T) (hr.mono (by decide)) (by rfl) T.g_is_side T.F_is_side.kp T.b_is_side .nil pass0 (pa_cons (pv 0) (pa_cons (pv 2) pa_nil))))) pa_nil))))))), ?_⟩
    walk_at "tx"
    obtain ⟨t, ty, ek⟩ := OQ.dqd_isRow hd
    refine ⟨x, t, _, rfl, ty, ek, fun H1 s1 => ?_⟩
    replace hd := OQ.Dqd.same s1 hd
    cases er : RK.rowsOf d with
    | none =>
      have e : RK.squareB n d = false := by unfold RK.squareB; rw [er]
      rw [e] at k
      exact ⟨false, rfl, RD.d_iteF (k H1 s1)⟩
    | some ds =>
      have e : RK.squareB n d = (decide (ds.length = n) && ds.all (RK.sideB n)) := by unfold RK.squareB; rw [er]
      rw [e] at k
      obtain ⟨a, xs, rfl, sa, da⟩ := OQ.dqd_row hd er
      have len := OQ.dqdAll_len da
      refine ⟨true, rfl, RD.d_iteT ?_⟩
      walk_at "tx"
      refine sa.len ?_
      walk_at "tx"
      rw [len]
      refine RD.iteD (fun c => ?_) (fun c => ?_)
      · have c' : ds.length = n := by omega
        rw [decide_eq_true c', Bool.true_and] at k
        walk_at "tx"
        refine OQ.d_seqVar rfl sa (fun J G hw hG => fun D hD => ?_)
        have sD := same_upd (o := HO.lst []) hD
        refine lc_it hw (fun i H' => Same H1 H' ∧ H' D = some (.lst (((ds.take i).map (RK.sideB n)).map V.bl))) ⟨sD, upd_same⟩ (fun i H' _ q => hG _ q.1) ?_ ?_
        · rintro i y H' H'' il ⟨s2, eD⟩ ⟨rfl, e2⟩
          obtain ⟨d', q1, q2⟩ := OQ.dqdAll_get da e2
          walk_at "tx"
          refine ⟨n, y, d', rfl, n16, OQ.Dqd.same s2 q2, fun H3 s3 => ?_⟩
          have il' : i < ds.length := by rw [← len]; exact il
          refine ⟨_, s3 _ _ eD, by rw [List.length_map, List.length_map, List.length_take]; exact Nat.lt_of_le_of_lt (by omega : _ ≤ 16) (by decide), fun b u e => ?_, ?_⟩
          · rw [upd_ne (ne_of_none e hD)]; exact s3 _ _ (s2 _ _ e)
          · rw [upd_same, List.take_succ, q1, List.map_append, List.map_append]; rfl
        · rintro H' ⟨s2, eD⟩
          rw [len, List.take_length] at eD
          walk_at "tx"
          refine ⟨D, _, rfl, SqL.of eD, ?_⟩
          rw [List.all_map]
          exact k _ (s1.trans s2)
      · rw [decide_eq_false (fun z => c (by omega)), Bool.false_and] at k
        exact k H1 s1
end

/-! ### the faults -/
open OQ (TabX RowX)
open RK (Fl FltAt)
/-- what tells a fault F, the objects that were there as they were -/
def spF (C : List V → Hp → Fl → Prop) : Sp := fun vs H Q _ => ∃ F, C vs H F ∧ ∀ v H', Same H H' → FltAt H' v F → Q v H'
theorem ret4 {H0 H : Hp} {Q : VK} {F : Fl} {w : Str} {a b c : Int} (k : ∀ v H', Same H0 H' → FltAt H' v F → Q v H') (s : Same H0 H) (e : F = some (w, a, b, c)) :
    [V.str w, V.int a, V.int b, V.int c].length ≤ sizeLine ∧ ∀ p, H p = none → Q (.ref p) (upd H p (.tup [.str w, .int a, .int b, .int c])) := by
  subst e
  exact ⟨by show 4 ≤ sizeLine; decide, fun p hp => k _ _ (s.trans (same_upd hp)) ⟨p, rfl, upd_same⟩⟩
theorem ret0 {H0 H : Hp} {Q : VK} {F : Fl} (k : ∀ v H', Same H0 H' → FltAt H' v F → Q v H') (s : Same H0 H) (e : F = none) : Q .non H := by
  subst e
  exact k _ _ s rfl
section
variable {P : Program} {w : World} {K : PySem.W.Frag} {mg : Str → Option Value} {base : Heap}
theorem ok_none_fault (T : Top K mg) : FnOk P w K mg base CX0 1 T.f_none_fault T.fd_none_fault ["joins", "products", "none"] (spF fun vs H F => ∃ a b n J M z, vs = [.ref a, .ref b, .int (z : Nat)] ∧ TabX K H a n J ∧ TabX K H b n M ∧ z < n ∧ n ≤ 16 ∧ F = RK.noneF n J M z) := by
  refine T.F_none_fault.ok sc_none_fault (fun vs H Q E h => ?_) (fun cdv A outer s H vs Q E hr h => ?_)
  · obtain ⟨F, ⟨a, b, n, J, M, z, rfl, _⟩, _⟩ := h; rfl
  · obtain ⟨F, ⟨a, b, n, J, M, z, rfl, tj, tp, zn, n16, eF⟩, k⟩ := h
    refine ⟨_, (pss_cons (ps_for PassesOwn.never rfl (pi_range1 (by rfl) T.n_range (pa_cons (pe_callB RD.c_len (by rfl) T.n_len (by decide +kernel) (pa_cons (pv 0) pa_nil)) pa_nil)) (pg_name (i := 3) sc_none_fault.nd rfl (Or.inl rfl))
 (pss_cons (ps_if (PW.pt (pw_or (pt_cmpR op_ne (pe_ix OQ.ix_seq (pe_ix OQ.ix_seq (pv 0) (pv 2) (fun _ _ => rfl)) (pv 3) (fun _ _ => rfl)) (pv 3) (nomark _)) (pw_or1 (pt_cmpR op_ne (pe_ix OQ.ix_seq (pe_ix OQ.ix_seq (pv 0) (pv 3) (fun _ _ => rfl)) (pv 2) (fun _ _ => rfl)) (pv 3) (nomark _)))))
 (pss_one (ps_ret (pe_tup (pa_cons pe_str (pa_cons (pv 3) (pa_cons (pe_un un_neg pe_int) (pa_cons (pe_un un_neg pe_int) pa_nil)))))))
 pss_nil)
 (pss_one (ps_if (PW.pt (pw_or (pt_cmpR op_ne (pe_ix OQ.ix_seq (pe_ix OQ.ix_seq (pv 1) (pv 2) (fun _ _ => rfl)) (pv 3) (fun _ _ => rfl)) (pv 2) (nomark _)) (pw_or1 (pt_cmpR op_ne (pe_ix OQ.ix_seq (pe_ix OQ.ix_seq (pv 1) (pv 3) (fun _ _ => rfl)) (pv 2) (fun _ _ => rfl)) (pv 2) (nomark _)))))
 (pss_one (ps_ret (pe_tup (pa_cons pe_str (pa_cons (pv 3) (pa_cons (pe_un un_neg pe_int) (pa_cons (pe_un un_neg pe_int) pa_nil)))))))
 pss_nil))))
 (pss_one (ps_ret pe_non))), ?_⟩
    walk_at "tx"
    refine tj.len ?_
    refine ⟨n, rfl, by omega, by omega, ?_⟩
    refine RD.f_range (lo := 0) (n := n) (fun t σ' H' => (∀ i, i < t → J z i = i ∧ J i z = i ∧ M z i = z ∧ M i z = z) ∧ ∃ v : Option V, σ' = [some (.ref a), some (.ref b), some (.int z), v] ∧ H' = H) ⟨fun i z => by omega, none, rfl, rfl⟩ ?_ ?_
    · rintro t σ' H' ht ⟨ok, v, rfl, rfl⟩
      have bad : ¬ (J z t = t ∧ J t z = t ∧ M z t = z ∧ M t z = z) → F = some (("none" : Str), 0 + (t : Int), -1, -1) := fun n => by
        rw [eF]
        exact RK.fnd_at (t := t) (fun i hi => if_pos (ok i hi)) ht ((if_neg n).trans (by rw [Int.zero_add]))
      walk_at "tx"
      refine OQ.xT (m := z) tj rfl zn (fun r hr => ?_)
      walk_at "tx"
      refine OQ.xR (m := t) hr (by omega) ht ?_
      walk_at "tx"
      refine RD.iteN (fun c1 => ?_) (fun c1 => ?_)
      · walk_at "tx"
        exact ret4 k (Same.refl _) (bad fun z => c1 (by omega))
      walk_at "tx"
      refine OQ.xT (m := t) tj (by omega) ht (fun r hr => ?_)
      walk_at "tx"
      refine OQ.xR (m := z) hr rfl zn ?_
      walk_at "tx"
      refine RD.iteN (fun c2 => ?_) (fun c2 => ?_)
      · walk_at "tx"
        exact ret4 k (Same.refl _) (bad fun z => c2 (by omega))
      walk_at "tx"
      refine OQ.xT (m := z) tp rfl zn (fun r hr => ?_)
      walk_at "tx"
      refine OQ.xR (m := t) hr (by omega) ht ?_
      walk_at "tx"
      refine RD.iteN (fun c3 => ?_) (fun c3 => ?_)
      · walk_at "tx"
        exact ret4 k (Same.refl _) (bad fun z => c3 (by omega))
      walk_at "tx"
      refine OQ.xT (m := t) tp (by omega) ht (fun r hr => ?_)
      walk_at "tx"
      refine OQ.xR (m := z) hr rfl zn ?_
      walk_at "tx"
      refine RD.iteN (fun c4 => ?_) (fun c4 => ?_)
      · walk_at "tx"
        exact ret4 k (Same.refl _) (bad fun z => c4 (by omega))
      walk_at "tx"
      refine ⟨fun i hi => ?_, _, rfl, rfl⟩
      by_cases e : i = t
      · subst e; omega
      · exact ok i (by omega)
    · rintro σ' H' ⟨ok, v, rfl, rfl⟩
      walk_at "tx"
      exact ret0 k (Same.refl _) (by rw [eF]; exact RK.fnd_none fun i hi => if_pos (ok i hi))
theorem ok_one_fault (T : Top K mg) : FnOk P w K mg base CX0 1 T.f_one_fault T.fd_one_fault ["products", "one"] (spF fun vs H F => ∃ b n M o, vs = [.ref b, .int (o : Nat)] ∧ TabX K H b n M ∧ o < n ∧ n ≤ 16 ∧ F = RK.oneF n M o) := by
  refine T.F_one_fault.ok sc_one_fault (fun vs H Q E h => ?_) (fun cdv A outer s H vs Q E hr h => ?_)
  · obtain ⟨F, ⟨b, n, M, o, rfl, _⟩, _⟩ := h; rfl
  · obtain ⟨F, ⟨b, n, M, o, rfl, tp, on, n16, eF⟩, k⟩ := h
    refine ⟨_, (pss_cons (ps_for PassesOwn.never rfl (pi_range1 (by rfl) T.n_range (pa_cons (pe_callB RD.c_len (by rfl) T.n_len (by decide +kernel) (pa_cons (pv 0) pa_nil)) pa_nil)) (pg_name (i := 2) sc_one_fault.nd rfl (Or.inl rfl))
 (pss_one (ps_if (PW.pt (pw_or (pt_cmpR op_ne (pe_ix OQ.ix_seq (pe_ix OQ.ix_seq (pv 0) (pv 1) (fun _ _ => rfl)) (pv 2) (fun _ _ => rfl)) (pv 2) (nomark _)) (pw_or1 (pt_cmpR op_ne (pe_ix OQ.ix_seq (pe_ix OQ.ix_seq (pv 0) (pv 2) (fun _ _ => rfl)) (pv 1) (fun _ _ => rfl)) (pv 2) (nomark _)))))
 (pss_one (ps_ret (pe_tup (pa_cons pe_str (pa_cons (pv 2) (pa_cons (pe_un un_neg pe_int) (pa_cons (pe_un un_neg pe_int) pa_nil)))))))
 pss_nil)))
 (pss_one (ps_ret pe_non))), ?_⟩
    walk_at "tx"
    refine tp.len ?_
    refine ⟨n, rfl, by omega, by omega, ?_⟩
    refine RD.f_range (lo := 0) (n := n) (fun t σ' H' => (∀ i, i < t → M o i = i ∧ M i o = i) ∧ ∃ v : Option V, σ' = [some (.ref b), some (.int o), v] ∧ H' = H) ⟨fun i z => by omega, none, rfl, rfl⟩ ?_ ?_
    · rintro t σ' H' ht ⟨ok, v, rfl, rfl⟩
      have bad : ¬ (M o t = t ∧ M t o = t) → F = some (("one" : Str), 0 + (t : Int), -1, -1) := fun n => by
        rw [eF]
        exact RK.fnd_at (t := t) (fun i hi => if_pos (ok i hi)) ht ((if_neg n).trans (by rw [Int.zero_add]))
      walk_at "tx"
      refine OQ.xT (m := o) tp rfl on (fun r hr => ?_)
      walk_at "tx"
      refine OQ.xR (m := t) hr (by omega) ht ?_
      walk_at "tx"
      refine RD.iteN (fun c1 => ?_) (fun c1 => ?_)
      · walk_at "tx"
        exact ret4 k (Same.refl _) (bad fun z => c1 (by omega))
      walk_at "tx"
      refine OQ.xT (m := t) tp (by omega) ht (fun r hr => ?_)
      walk_at "tx"
      refine OQ.xR (m := o) hr rfl on ?_
      walk_at "tx"
      refine RD.iteN (fun c2 => ?_) (fun c2 => ?_)
      · walk_at "tx"
        exact ret4 k (Same.refl _) (bad fun z => c2 (by omega))
      walk_at "tx"
      refine ⟨fun i hi => ?_, _, rfl, rfl⟩
      by_cases e : i = t
      · subst e; omega
      · exact ok i (by omega)
    · rintro σ' H' ⟨ok, v, rfl, rfl⟩
      walk_at "tx"
      exact ret0 k (Same.refl _) (by rw [eF]; exact RK.fnd_none fun i hi => if_pos (ok i hi))
theorem ok_idle_fault (T : Top K mg) : FnOk P w K mg base CX0 1 T.f_idle_fault T.fd_idle_fault ["joins"] (spF fun vs H F => ∃ a n J, vs = [.ref a] ∧ TabX K H a n J ∧ n ≤ 16 ∧ F = RK.idleF n J) := by
  refine T.F_idle_fault.ok sc_idle_fault (fun vs H Q E h => ?_) (fun cdv A outer s H vs Q E hr h => ?_)
  · obtain ⟨F, ⟨a, n, J, rfl, _⟩, _⟩ := h; rfl
  · obtain ⟨F, ⟨a, n, J, rfl, tj, n16, eF⟩, k⟩ := h
    refine ⟨_, (pss_cons (ps_for PassesOwn.never rfl (pi_range1 (by rfl) T.n_range (pa_cons (pe_callB RD.c_len (by rfl) T.n_len (by decide +kernel) (pa_cons (pv 0) pa_nil)) pa_nil)) (pg_name (i := 1) sc_idle_fault.nd rfl (Or.inl rfl))
 (pss_one (ps_if (pt_cmpR op_ne (pe_ix OQ.ix_seq (pe_ix OQ.ix_seq (pv 0) (pv 1) (fun _ _ => rfl)) (pv 1) (fun _ _ => rfl)) (pv 1) (nomark _))
 (pss_one (ps_ret (pe_tup (pa_cons pe_str (pa_cons (pv 1) (pa_cons (pe_un un_neg pe_int) (pa_cons (pe_un un_neg pe_int) pa_nil)))))))
 pss_nil)))
 (pss_one (ps_ret pe_non))), ?_⟩
    walk_at "tx"
    refine tj.len ?_
    refine ⟨n, rfl, by omega, by omega, ?_⟩
    refine RD.f_range (lo := 0) (n := n) (fun t σ' H' => (∀ i, i < t → J i i = i) ∧ ∃ v : Option V, σ' = [some (.ref a), v] ∧ H' = H) ⟨fun i z => by omega, none, rfl, rfl⟩ ?_ ?_
    · rintro t σ' H' ht ⟨ok, v, rfl, rfl⟩
      walk_at "tx"
      refine OQ.xT (m := t) tj (by omega) ht (fun r hr => ?_)
      walk_at "tx"
      refine OQ.xR (m := t) hr (by omega) ht ?_
      walk_at "tx"
      refine RD.iteN (fun c1 => ?_) (fun c1 => ?_)
      · walk_at "tx"
        refine ret4 k (Same.refl _) ?_
        rw [eF]
        exact RK.fnd_at (t := t) (fun i hi => if_pos (ok i hi)) ht ((if_neg fun z => c1 (by omega)).trans (by rw [Int.zero_add]))
      walk_at "tx"
      refine ⟨fun i hi => ?_, _, rfl, rfl⟩
      by_cases e : i = t
      · subst e; omega
      · exact ok i (by omega)
    · rintro σ' H' ⟨ok, v, rfl, rfl⟩
      walk_at "tx"
      exact ret0 k (Same.refl _) (by rw [eF]; exact RK.fnd_none fun i hi => if_pos (ok i hi))
theorem ok_swap_fault (T : Top K mg) : FnOk P w K mg base CX0 1 T.f_swap_fault T.fd_swap_fault ["joins"] (spF fun vs H F => ∃ a n J, vs = [.ref a] ∧ TabX K H a n J ∧ n ≤ 16 ∧ F = RK.swapF n J) := by
  refine T.F_swap_fault.ok sc_swap_fault (fun vs H Q E h => ?_) (fun cdv A outer s H vs Q E hr h => ?_)
  · obtain ⟨F, ⟨a, n, J, rfl, _⟩, _⟩ := h; rfl
  · obtain ⟨F, ⟨a, n, J, rfl, tj, n16, eF⟩, k⟩ := h
    refine ⟨_, (pss_cons (ps_for PassesOwn.never rfl (pi_range1 (by rfl) T.n_range (pa_cons (pe_callB RD.c_len (by rfl) T.n_len (by decide +kernel) (pa_cons (pv 0) pa_nil)) pa_nil)) (pg_name (i := 1) sc_swap_fault.nd rfl (Or.inl rfl))
 (pss_one (ps_for PassesOwn.never rfl (pi_range1 (by rfl) T.n_range (pa_cons (pe_callB RD.c_len (by rfl) T.n_len (by decide +kernel) (pa_cons (pv 0) pa_nil)) pa_nil)) (pg_name (i := 2) sc_swap_fault.nd rfl (Or.inl rfl))
 (pss_one (ps_if (pt_cmpR op_ne (pe_ix OQ.ix_seq (pe_ix OQ.ix_seq (pv 0) (pv 1) (fun _ _ => rfl)) (pv 2) (fun _ _ => rfl)) (pe_ix OQ.ix_seq (pe_ix OQ.ix_seq (pv 0) (pv 2) (fun _ _ => rfl)) (pv 1) (fun _ _ => rfl)) (nomark _))
 (pss_one (ps_ret (pe_tup (pa_cons pe_str (pa_cons (pv 1) (pa_cons (pv 2) (pa_cons (pe_un un_neg pe_int) pa_nil)))))))
 pss_nil)))))
 (pss_one (ps_ret pe_non))), ?_⟩
    walk_at "tx"
    refine tj.len ?_
    refine ⟨n, rfl, by omega, by omega, ?_⟩
    refine RD.f_range (lo := 0) (n := n) (fun t σ' H' => (∀ i, i < t → ∀ j, j < n → J i j = J j i) ∧ ∃ v v2 : Option V, σ' = [some (.ref a), v, v2] ∧ H' = H) ⟨fun i z => by omega, none, none, rfl, rfl⟩ ?_ ?_
    · rintro t σ' H' ht ⟨ok, v, v2, rfl, rfl⟩
      walk_at "tx"
      refine tj.len ?_
      refine ⟨n, rfl, by omega, by omega, ?_⟩
      refine RD.f_range (lo := 0) (n := n) (fun u σ' H'' => (∀ j, j < u → J t j = J j t) ∧ ∃ v2 : Option V, σ' = [some (.ref a), some (.int (0 + t)), v2] ∧ H'' = H') ⟨fun i z => by omega, v2, rfl, rfl⟩ ?_ ?_
      · rintro u σ' H'' hu ⟨ok2, v2, rfl, rfl⟩
        walk_at "tx"
        refine OQ.xT (m := t) tj (by omega) ht (fun r hr => ?_)
        walk_at "tx"
        refine OQ.xR (m := u) hr (by omega) hu ?_
        walk_at "tx"
        refine OQ.xT (m := u) tj (by omega) hu (fun r hr => ?_)
        walk_at "tx"
        refine OQ.xR (m := t) hr (by omega) ht ?_
        walk_at "tx"
        refine RD.iteN (fun c1 => ?_) (fun c1 => ?_)
        · walk_at "tx"
          refine ret4 k (Same.refl _) ?_
          rw [eF]
          refine RK.fnd_at (t := t) (fun i hi => RK.fnd_none fun j hj => if_pos (ok i hi j hj)) ht ?_
          exact RK.fnd_at (t := u) (fun j hj => if_pos (ok2 j hj)) hu ((if_neg fun z => c1 (by omega)).trans (by rw [Int.zero_add, Int.zero_add]))
        walk_at "tx"
        refine ⟨fun i hi => ?_, _, rfl, rfl⟩
        by_cases e : i = u
        · subst e; omega
        · exact ok2 i (by omega)
      · rintro σ' H'' ⟨ok2, v2, rfl, rfl⟩
        refine ⟨fun i hi => ?_, _, _, rfl, rfl⟩
        by_cases e : i = t
        · subst e; exact ok2
        · exact ok i (by omega)
    · rintro σ' H' ⟨ok, v, v2, rfl, rfl⟩
      walk_at "tx"
      exact ret0 k (Same.refl _) (by rw [eF]; exact RK.fnd_none fun i hi => RK.fnd_none fun j hj => if_pos (ok i hi j hj))
theorem ok_grouping_fault (T : Top K mg) : FnOk P w K mg base CX0 1 T.f_grouping_fault T.fd_grouping_fault ["word", "table"] (spF fun vs H F => ∃ (q : Str) (a : Addr) (n : Nat) (J : Nat → Nat → Nat), vs = [.str q, .ref a] ∧ TabX K H a n J ∧ n ≤ 16 ∧ (∀ a b, a < n → b < n → J a b < n) ∧ F = RK.groupF q n J) := by
  refine T.F_grouping_fault.ok sc_grouping_fault (fun vs H Q E h => ?_) (fun cdv A outer s H vs Q E hr h => ?_)
  · obtain ⟨F, ⟨q, a, n, J, rfl, _⟩, _⟩ := h; rfl
  · obtain ⟨F, ⟨q, a, n, J, rfl, tj, n16, wj, eF⟩, k⟩ := h
    refine ⟨_, (pss_cons (ps_set (i := 2) sc_grouping_fault.nd rfl (Or.inl rfl) (pe_callTy OQ.cr_range1 (by rfl) T.n_range (by decide +kernel) (pa_cons (pe_callB RD.c_len (by rfl) T.n_len (by decide +kernel) (pa_cons (pv 1) pa_nil)) pa_nil)))
 (pss_cons (ps_for PassesOwn.never rfl (OQ.pi_rngV (pv 2)) (pg_name (i := 3) sc_grouping_fault.nd rfl (Or.inl rfl))
 (pss_one (ps_for PassesOwn.never rfl (OQ.pi_rngV (pv 2)) (pg_name (i := 4) sc_grouping_fault.nd rfl (Or.inl rfl))
 (pss_one (ps_for PassesOwn.never rfl (OQ.pi_rngV (pv 2)) (pg_name (i := 5) sc_grouping_fault.nd rfl (Or.inl rfl))
 (pss_one (ps_if (pt_cmpR op_ne (pe_ix OQ.ix_seq (pe_ix OQ.ix_seq (pv 1) (pe_ix OQ.ix_seq (pe_ix OQ.ix_seq (pv 1) (pv 3) (fun _ _ => rfl)) (pv 4) (fun _ _ => rfl)) (fun _ _ => rfl)) (pv 5) (fun _ _ => rfl)) (pe_ix OQ.ix_seq (pe_ix OQ.ix_seq (pv 1) (pv 3) (fun _ _ => rfl)) (pe_ix OQ.ix_seq (pe_ix OQ.ix_seq (pv 1) (pv 4) (fun _ _ => rfl)) (pv 5) (fun _ _ => rfl)) (fun _ _ => rfl)) (nomark _))
 (pss_one (ps_ret (pe_tup (pa_cons (pv 0) (pa_cons (pv 3) (pa_cons (pv 4) (pa_cons (pv 5) pa_nil)))))))
 pss_nil)))))))
 (pss_one (ps_ret pe_non)))), ?_⟩
    walk_at "tx"
    refine tj.len ?_
    refine ⟨n, rfl, fun p hp => ?_⟩
    have sp := same_upd (o := HO.rng 0 n) hp
    have ep : upd H p (.rng 0 n) p = some (.rng 0 n) := upd_same
    replace tj := tj.same sp
    generalize upd H p (.rng 0 n) = H0 at *
    walk_at "tx"
    refine ⟨p, 0, n, rfl, ep, by omega, ?_⟩
    refine RD.f_range (lo := 0) (n := ((n : Int) - 0).toNat) (fun t σ' H' => (∀ a, a < t → ∀ b, b < n → ∀ c, c < n → J (J a b) c = J a (J b c)) ∧ ∃ v v2 v3 : Option V, σ' = [some (.str q), some (.ref a), some (.ref p), v, v2, v3] ∧ H' = H0) ⟨fun i z => by omega, none, none, none, rfl, rfl⟩ ?_ ?_
    · rintro t σ' H' ht' ⟨ok, v, v2, v3, rfl, rfl⟩
      have ht : t < n := by omega
      walk_at "tx"
      refine ⟨p, 0, n, rfl, ep, by omega, ?_⟩
      refine RD.f_range (lo := 0) (n := ((n : Int) - 0).toNat) (fun u σ' H'' => (∀ b, b < u → ∀ c, c < n → J (J t b) c = J t (J b c)) ∧ ∃ v2 v3 : Option V, σ' = [some (.str q), some (.ref a), some (.ref p), some (.int (0 + t)), v2, v3] ∧ H'' = H') ⟨fun i z => by omega, v2, v3, rfl, rfl⟩ ?_ ?_
      · rintro u σ' H'' hu' ⟨ok2, v2, v3, rfl, rfl⟩
        have hu : u < n := by omega
        walk_at "tx"
        refine ⟨p, 0, n, rfl, ep, by omega, ?_⟩
        refine RD.f_range (lo := 0) (n := ((n : Int) - 0).toNat) (fun c σ' H' => (∀ d, d < c → J (J t u) d = J t (J u d)) ∧ ∃ v3 : Option V, σ' = [some (.str q), some (.ref a), some (.ref p), some (.int (0 + t)), some (.int (0 + u)), v3] ∧ H' = H'') ⟨fun i z => by omega, v3, rfl, rfl⟩ ?_ ?_
        · rintro c σ' H' hc' ⟨ok3, v3, rfl, rfl⟩
          have hc : c < n := by omega
          have w1 := wj t u ht hu
          have w2 := wj u c hu hc
          walk_at "tx"
          refine OQ.xT (m := t) tj (by omega) ht (fun r hr => ?_)
          walk_at "tx"
          refine OQ.xR (m := u) hr (by omega) hu ?_
          walk_at "tx"
          refine OQ.xT (m := J t u) tj rfl w1 (fun r hr => ?_)
          walk_at "tx"
          refine OQ.xR (m := c) hr (by omega) hc ?_
          walk_at "tx"
          refine OQ.xT (m := t) tj (by omega) ht (fun r0 hr0 => ?_)
          walk_at "tx"
          refine OQ.xT (m := u) tj (by omega) hu (fun r hr => ?_)
          walk_at "tx"
          refine OQ.xR (m := c) hr (by omega) hc ?_
          walk_at "tx"
          refine OQ.xR (m := J u c) hr0 rfl w2 ?_
          walk_at "tx"
          refine RD.iteN (fun c1 => ?_) (fun c1 => ?_)
          · walk_at "tx"
            refine ret4 k sp ?_
            rw [eF]
            refine RK.fnd_at (t := t) (fun i hi => RK.fnd_none fun j hj => RK.fnd_none fun l hl => if_pos (ok i hi j hj l hl)) ht ?_
            refine RK.fnd_at (t := u) (fun j hj => RK.fnd_none fun l hl => if_pos (ok2 j hj l hl)) hu ?_
            exact RK.fnd_at (t := c) (fun j hj => if_pos (ok3 j hj)) hc ((if_neg fun z => c1 (by omega)).trans (by rw [Int.zero_add, Int.zero_add, Int.zero_add]))
          walk_at "tx"
          refine ⟨fun i hi => ?_, _, rfl, rfl⟩
          by_cases e : i = c
          · subst e; omega
          · exact ok3 i (by omega)
        · rintro σ' H' ⟨ok3, v3, rfl, rfl⟩
          refine ⟨fun i hi => ?_, _, _, rfl, rfl⟩
          by_cases e : i = u
          · subst e; exact fun c hc => ok3 c (by omega)
          · exact ok2 i (by omega)
      · rintro σ' H'' ⟨ok2, v2, v3, rfl, rfl⟩
        refine ⟨fun i hi => ?_, _, _, _, rfl, rfl⟩
        by_cases e : i = t
        · subst e; exact fun b hb c hc => ok2 b (by omega) c hc
        · exact ok i (by omega)
    · rintro σ' H' ⟨ok, v, v2, v3, rfl, rfl⟩
      walk_at "tx"
      exact ret0 k sp (by rw [eF]; exact RK.fnd_none fun i hi => RK.fnd_none fun j hj => RK.fnd_none fun l hl => if_pos (ok i (by omega) j hj l hl))
theorem ok_same_fault (T : Top K mg) : FnOk P w K mg base CX0 1 T.f_same_fault T.fd_same_fault ["none", "one"] (spF fun vs _ F => ∃ z o : Nat, vs = [.int z, .int o] ∧ F = RK.sameF z o) := by
  refine T.F_same_fault.ok sc_same_fault (fun vs H Q E h => ?_) (fun cdv A outer s H vs Q E hr h => ?_)
  · obtain ⟨F, ⟨z, o, rfl, _⟩, _⟩ := h; rfl
  · obtain ⟨F, ⟨z, o, rfl, eF⟩, k⟩ := h
    refine ⟨_, (pss_one (ps_ret (pe_ifExp (pt_cmpR op_eq (pv 0) (pv 1) (nomark _)) (pe_tup (pa_cons pe_str (pa_cons (pe_un un_neg pe_int) (pa_cons (pe_un un_neg pe_int) (pa_cons (pe_un un_neg pe_int) pa_nil))))) pe_non))), ?_⟩
    walk_at "tx"
    refine RD.iteD (fun c => ?_) (fun c => ?_)
    · walk_at "tx"
      refine ret4 k (Same.refl _) ?_
      rw [eF]
      exact if_pos (by omega)
    · walk_at "tx"
      refine ret0 k (Same.refl _) ?_
      rw [eF]
      exact if_neg (by omega)
end

/-! ### the first fault -/
open OQ (TabX RowX)
open RK (Fl FltAt)
theorem d_orT {K : PySem.W.Frag} {ta tb : TE} {σ : L2.St} {H : Hp} {Q : VK} (h : ta σ H fun x H1 => ∃ k, TruV K x H1 k ∧ if k = true then Q x H1 else tb σ H1 Q) : tOrT K ta tb σ H Q := h
/-- the fault F1, and where it is none what comes next -/
theorem orF {K : PySem.W.Frag} {H : Hp} {v : V} {F1 F2 F : Fl} {X Y : Prop} (f : FltAt H v F1) (e : F = F1.or F2) (h1 : FltAt H v F → X) (h2 : F = F2 → Y) : ∃ k, TruV K v H k ∧ if k = true then X else Y := by
  cases F1 with
  | none => cases f; exact ⟨false, rfl, RD.d_iteF (h2 (by rw [e]; rfl))⟩
  | some q =>
    have e' : F = some q := by rw [e]; rfl
    obtain ⟨w, a, b, c⟩ := q
    obtain ⟨p, rfl, hp⟩ := id f
    exact ⟨true, .inr (.inl ⟨_, SqT.of hp, rfl⟩), RD.d_iteT (h1 (by rw [e']; exact f))⟩
/-- the first fault of what is handed in -/
def sizF (dj dp dz dn : PyData) : Fl := if RK.sizeB dj dp dz dn = true then none else some ("size", -1, -1, -1)
def firstF (dj dp dz dn : PyData) : Fl := (sizF dj dp dz dn).or (RK.restF (RK.cellsOf dj).length (RK.tabf dj) (RK.tabf dp) (RK.natOf dz) (RK.natOf dn))
theorem below_nat {K : PySem.W.Frag} {H : Hp} {n : Nat} {d : PyData} {v : V} (h : OQ.Dqd K H v d) (e : RK.belowB n d = true) : v = .int (RK.natOf d : Nat) ∧ RK.natOf d < n := by
  obtain ⟨i, rfl, h0, h1⟩ := OQ.belowB_int e
  cases h
  have : ((RK.natOf (.int i) : Nat) : Int) = i := by show ((i.toNat : Nat) : Int) = i; omega
  exact ⟨by rw [this], by omega⟩
theorem size_ok {dj dp dz dn : PyData} (h : RK.sizeB dj dp dz dn = true) : 2 ≤ (RK.cellsOf dj).length ∧ (RK.cellsOf dj).length ≤ 16 ∧ RK.squareB (RK.cellsOf dj).length dj = true ∧ RK.squareB (RK.cellsOf dj).length dp = true ∧ RK.belowB (RK.cellsOf dj).length dz = true ∧ RK.belowB (RK.cellsOf dj).length dn = true := by
  unfold RK.sizeB at h
  split at h
  · rename_i ds e
    have ec : RK.cellsOf dj = ds := by unfold RK.cellsOf; rw [e]; rfl
    simp only [Bool.and_eq_true, decide_eq_true_eq] at h
    rw [ec]
    exact ⟨h.1.1, h.1.2, h.2.1, h.2.2.1, h.2.2.2.1, h.2.2.2.2⟩
  · cases h
section
variable {P : Program} {w : World} {K : PySem.W.Frag} {mg : Str → Option Value} {base : Heap}
theorem ok_over_fault (T : Top K mg) : FnOk P w K mg base CX0 1 T.f_over_fault T.fd_over_fault ["joins", "products"] (spF fun vs H F => ∃ (a b : Addr) (n : Nat) (J M : Nat → Nat → Nat), vs = [.ref a, .ref b] ∧ TabX K H a n J ∧ TabX K H b n M ∧ n ≤ 16 ∧ (∀ a b, a < n → b < n → J a b < n) ∧ (∀ a b, a < n → b < n → M a b < n) ∧ F = RK.overF n J M) := by
  refine T.F_over_fault.ok sc_over_fault (fun vs H Q E h => ?_) (fun cdv A outer s H vs Q E hr h => ?_)
  · obtain ⟨F, ⟨a, b, n, J, M, rfl, _⟩, _⟩ := h; rfl
  · obtain ⟨F, ⟨a, b, n, J, M, rfl, tj, tp, n16, wj, wp, eF⟩, k⟩ := h
    refine ⟨_, (pss_cons (ps_set (i := 2) sc_over_fault.nd rfl (Or.inl rfl) (pe_callTy OQ.cr_range1 (by rfl) T.n_range (by decide +kernel) (pa_cons (pe_callB RD.c_len (by rfl) T.n_len (by decide +kernel) (pa_cons (pv 0) pa_nil)) pa_nil)))
 (pss_cons (ps_for PassesOwn.never rfl (OQ.pi_rngV (pv 2)) (pg_name (i := 3) sc_over_fault.nd rfl (Or.inl rfl))
 (pss_one (ps_for PassesOwn.never rfl (OQ.pi_rngV (pv 2)) (pg_name (i := 4) sc_over_fault.nd rfl (Or.inl rfl))
 (pss_one (ps_for PassesOwn.never rfl (OQ.pi_rngV (pv 2)) (pg_name (i := 5) sc_over_fault.nd rfl (Or.inl rfl))
 (pss_cons (ps_set (i := 6) sc_over_fault.nd rfl (Or.inl rfl) (pe_ix OQ.ix_seq (pe_ix OQ.ix_seq (pv 0) (pv 4) (fun _ _ => rfl)) (pv 5) (fun _ _ => rfl)))
 (pss_cons (ps_if (pt_cmpR op_ne (pe_ix OQ.ix_seq (pe_ix OQ.ix_seq (pv 1) (pv 3) (fun _ _ => rfl)) (pv 6) (fun _ _ => rfl)) (pe_ix OQ.ix_seq (pe_ix OQ.ix_seq (pv 0) (pe_ix OQ.ix_seq (pe_ix OQ.ix_seq (pv 1) (pv 3) (fun _ _ => rfl)) (pv 4) (fun _ _ => rfl)) (fun _ _ => rfl)) (pe_ix OQ.ix_seq (pe_ix OQ.ix_seq (pv 1) (pv 3) (fun _ _ => rfl)) (pv 5) (fun _ _ => rfl)) (fun _ _ => rfl)) (nomark _))
 (pss_one (ps_ret (pe_tup (pa_cons pe_str (pa_cons (pv 3) (pa_cons (pv 4) (pa_cons (pv 5) pa_nil)))))))
 pss_nil)
 (pss_one (ps_if (pt_cmpR op_ne (pe_ix OQ.ix_seq (pe_ix OQ.ix_seq (pv 1) (pv 6) (fun _ _ => rfl)) (pv 3) (fun _ _ => rfl)) (pe_ix OQ.ix_seq (pe_ix OQ.ix_seq (pv 0) (pe_ix OQ.ix_seq (pe_ix OQ.ix_seq (pv 1) (pv 4) (fun _ _ => rfl)) (pv 3) (fun _ _ => rfl)) (fun _ _ => rfl)) (pe_ix OQ.ix_seq (pe_ix OQ.ix_seq (pv 1) (pv 5) (fun _ _ => rfl)) (pv 3) (fun _ _ => rfl)) (fun _ _ => rfl)) (nomark _))
 (pss_one (ps_ret (pe_tup (pa_cons pe_str (pa_cons (pv 3) (pa_cons (pv 4) (pa_cons (pv 5) pa_nil)))))))
 pss_nil)))))))))
 (pss_one (ps_ret pe_non)))), ?_⟩
    walk_at "tx"
    refine tj.len ?_
    refine ⟨n, rfl, fun p hp => ?_⟩
    have sp := same_upd (o := HO.rng 0 n) hp
    have ep : upd H p (.rng 0 n) p = some (.rng 0 n) := upd_same
    replace tj := tj.same sp
    replace tp := tp.same sp
    generalize upd H p (.rng 0 n) = H0 at *
    walk_at "tx"
    refine ⟨p, 0, n, rfl, ep, by omega, ?_⟩
    refine RD.f_range (lo := 0) (n := ((n : Int) - 0).toNat) (fun t σ' H' => (∀ a, a < t → ∀ b, b < n → ∀ c, c < n → M a (J b c) = J (M a b) (M a c) ∧ M (J b c) a = J (M b a) (M c a)) ∧ ∃ v v2 v3 v4 : Option V, σ' = [some (.ref a), some (.ref b), some (.ref p), v, v2, v3, v4] ∧ H' = H0) ⟨fun i z => by omega, none, none, none, none, rfl, rfl⟩ ?_ ?_
    · rintro t σ' H' ht' ⟨ok, v, v2, v3, v4, rfl, rfl⟩
      have ht : t < n := by omega
      walk_at "tx"
      refine ⟨p, 0, n, rfl, ep, by omega, ?_⟩
      refine RD.f_range (lo := 0) (n := ((n : Int) - 0).toNat) (fun u σ' H'' => (∀ b, b < u → ∀ c, c < n → M t (J b c) = J (M t b) (M t c) ∧ M (J b c) t = J (M b t) (M c t)) ∧ ∃ v2 v3 v4 : Option V, σ' = [some (.ref a), some (.ref b), some (.ref p), some (.int (0 + t)), v2, v3, v4] ∧ H'' = H') ⟨fun i z => by omega, v2, v3, v4, rfl, rfl⟩ ?_ ?_
      · rintro u σ' H'' hu' ⟨ok2, v2, v3, v4, rfl, rfl⟩
        have hu : u < n := by omega
        walk_at "tx"
        refine ⟨p, 0, n, rfl, ep, by omega, ?_⟩
        refine RD.f_range (lo := 0) (n := ((n : Int) - 0).toNat) (fun c σ' H' => (∀ d, d < c → M t (J u d) = J (M t u) (M t d) ∧ M (J u d) t = J (M u t) (M d t)) ∧ ∃ v3 v4 : Option V, σ' = [some (.ref a), some (.ref b), some (.ref p), some (.int (0 + t)), some (.int (0 + u)), v3, v4] ∧ H' = H'') ⟨fun i z => by omega, v3, v4, rfl, rfl⟩ ?_ ?_
        · rintro c σ' H' hc' ⟨ok3, v3, v4, rfl, rfl⟩
          have hc : c < n := by omega
          have w1 := wj u c hu hc
          have bad : ¬ (M t (J u c) = J (M t u) (M t c) ∧ M (J u c) t = J (M u t) (M c t)) → F = some (("over" : Str), 0 + (t : Int), 0 + (u : Int), 0 + (c : Int)) := fun ng => by
            rw [eF]
            refine RK.fnd_at (t := t) (fun i hi => RK.fnd_none fun j hj => RK.fnd_none fun l hl => if_pos (ok i hi j hj l hl)) ht ?_
            refine RK.fnd_at (t := u) (fun j hj => RK.fnd_none fun l hl => if_pos (ok2 j hj l hl)) hu ?_
            exact RK.fnd_at (t := c) (fun j hj => if_pos (ok3 j hj)) hc ((if_neg ng).trans (by rw [Int.zero_add, Int.zero_add, Int.zero_add]))
          walk_at "tx"
          refine OQ.xT (m := u) tj (by omega) hu (fun r hr => ?_)
          walk_at "tx"
          refine OQ.xR (m := c) hr (by omega) hc ?_
          walk_at "tx"
          refine OQ.xT (m := t) tp (by omega) ht (fun r hr => ?_)
          walk_at "tx"
          refine OQ.xR (m := J u c) hr rfl w1 ?_
          walk_at "tx"
          refine OQ.xT (m := t) tp (by omega) ht (fun r hr => ?_)
          walk_at "tx"
          refine OQ.xR (m := u) hr (by omega) hu ?_
          walk_at "tx"
          refine OQ.xT (m := M t u) tj rfl (wp t u ht hu) (fun r0 hr0 => ?_)
          walk_at "tx"
          refine OQ.xT (m := t) tp (by omega) ht (fun r hr => ?_)
          walk_at "tx"
          refine OQ.xR (m := c) hr (by omega) hc ?_
          walk_at "tx"
          refine OQ.xR (m := M t c) hr0 rfl (wp t c ht hc) ?_
          walk_at "tx"
          refine RD.iteN (fun c1 => ?_) (fun c1 => ?_)
          · walk_at "tx"
            exact ret4 k sp (bad fun z => c1 (by omega))
          walk_at "tx"
          refine OQ.xT (m := J u c) tp rfl w1 (fun r hr => ?_)
          walk_at "tx"
          refine OQ.xR (m := t) hr (by omega) ht ?_
          walk_at "tx"
          refine OQ.xT (m := u) tp (by omega) hu (fun r hr => ?_)
          walk_at "tx"
          refine OQ.xR (m := t) hr (by omega) ht ?_
          walk_at "tx"
          refine OQ.xT (m := M u t) tj rfl (wp u t hu ht) (fun r0 hr0 => ?_)
          walk_at "tx"
          refine OQ.xT (m := c) tp (by omega) hc (fun r hr => ?_)
          walk_at "tx"
          refine OQ.xR (m := t) hr (by omega) ht ?_
          walk_at "tx"
          refine OQ.xR (m := M c t) hr0 rfl (wp c t hc ht) ?_
          walk_at "tx"
          refine RD.iteN (fun c2 => ?_) (fun c2 => ?_)
          · walk_at "tx"
            exact ret4 k sp (bad fun z => c2 (by omega))
          walk_at "tx"
          refine ⟨fun i hi => ?_, _, _, rfl, rfl⟩
          by_cases e : i = c
          · subst e; omega
          · exact ok3 i (by omega)
        · rintro σ' H' ⟨ok3, v3, v4, rfl, rfl⟩
          refine ⟨fun i hi => ?_, _, _, _, rfl, rfl⟩
          by_cases e : i = u
          · subst e; exact fun c hc => ok3 c (by omega)
          · exact ok2 i (by omega)
      · rintro σ' H'' ⟨ok2, v2, v3, v4, rfl, rfl⟩
        refine ⟨fun i hi => ?_, _, _, _, _, rfl, rfl⟩
        by_cases e : i = t
        · subst e; exact fun b hb c hc => ok2 b (by omega) c hc
        · exact ok i (by omega)
    · rintro σ' H' ⟨ok, v, v2, v3, v4, rfl, rfl⟩
      walk_at "tx"
      exact ret0 k sp (by rw [eF]; exact RK.fnd_none fun i hi => RK.fnd_none fun j hj => RK.fnd_none fun l hl => if_pos (ok i (by omega) j hj l hl))
theorem ok_size_fault (T : Top K mg) : FnOk P w K mg base CX0 8 T.f_size_fault T.fd_size_fault ["joins", "products", "none", "one"] (spF fun vs H F => ∃ (vj vp vz vn : V) (dj dp dz dn : PyData), vs = [vj, vp, vz, vn] ∧ OQ.Dqd K H vj dj ∧ OQ.Dqd K H vp dp ∧ OQ.Dqd K H vz dz ∧ OQ.Dqd K H vn dn ∧ F = sizF dj dp dz dn) := by
  refine T.F_size_fault.ok sc_size_fault (fun vs H Q E h => ?_) (fun cdv A outer s H vs Q E hr h => ?_)
  · obtain ⟨F, ⟨vj, vp, vz, vn, dj, dp, dz, dn, rfl, _⟩, _⟩ := h; rfl
  · obtain ⟨F, ⟨vj, vp, vz, vn, dj, dp, dz, dn, rfl, hj, hp, hz, hn, eF⟩, k⟩ := h
    have bad : RK.sizeB dj dp dz dn = false → F = some (("size" : Str), -1, -1, -1) := fun z => by rw [eF]; unfold sizF; rw [if_neg (by rw [z]; decide)]
    refine ⟨_, (pss_cons (ps_if (PW.pt (pw_or (pt_not (pt_val (pe_call (ok_is_row T) (hr.mono (by decide)) (by rfl) T.g_is_row T.F_is_row.kp T.b_is_row .nil pass0 (pa_cons (pv 0) pa_nil)))) (pw_or1 (pt_not (pt_chain op_le op_le (pe_glob (v := V.int 2) (by rfl) T.g_FEWEST_WORTHS ⟨_, rfl⟩) (pe_callB RD.c_len (by rfl) T.n_len (by decide +kernel) (pa_cons (pv 0) pa_nil)) (pe_glob (v := V.int 16) (by rfl) T.g_MOST_WORTHS ⟨_, rfl⟩))))))
 (pss_one (ps_ret (pe_tup (pa_cons pe_str (pa_cons (pe_un un_neg pe_int) (pa_cons (pe_un un_neg pe_int) (pa_cons (pe_un un_neg pe_int) pa_nil)))))))
 pss_nil)
 (pss_cons (ps_set (i := 4) sc_size_fault.nd rfl (Or.inl rfl) (pe_callB RD.c_len (by rfl) T.n_len (by decide +kernel) (pa_cons (pv 0) pa_nil)))
 (pss_cons (ps_if (PW.pt (pw_or (pt_not (pt_val (pe_call (ok_is_square T) (hr.mono (by decide)) (by rfl) T.g_is_square T.F_is_square.kp T.b_is_square .nil pass0 (pa_cons (pv 4) (pa_cons (pv 0) pa_nil))))) (pw_or1 (pt_not (pt_val (pe_call (ok_is_square T) (hr.mono (by decide)) (by rfl) T.g_is_square T.F_is_square.kp T.b_is_square .nil pass0 (pa_cons (pv 4) (pa_cons (pv 1) pa_nil))))))))
 (pss_one (ps_ret (pe_tup (pa_cons pe_str (pa_cons (pe_un un_neg pe_int) (pa_cons (pe_un un_neg pe_int) (pa_cons (pe_un un_neg pe_int) pa_nil)))))))
 pss_nil)
 (pss_cons (ps_if (PW.pt (pw_or (pt_not (pt_val (pe_call (ok_is_below T) (hr.mono (by decide)) (by rfl) T.g_is_below T.F_is_below.kp T.b_is_below .nil pass0 (pa_cons (pv 4) (pa_cons (pv 2) pa_nil))))) (pw_or1 (pt_not (pt_val (pe_call (ok_is_below T) (hr.mono (by decide)) (by rfl) T.g_is_below T.F_is_below.kp T.b_is_below .nil pass0 (pa_cons (pv 4) (pa_cons (pv 3) pa_nil))))))))
 (pss_one (ps_ret (pe_tup (pa_cons pe_str (pa_cons (pe_un un_neg pe_int) (pa_cons (pe_un un_neg pe_int) (pa_cons (pe_un un_neg pe_int) pa_nil)))))))
 pss_nil)
 (pss_one (ps_ret pe_non)))))), ?_⟩
    walk_at "tx"
    obtain ⟨t, ty, ek⟩ := OQ.dqd_isRow hj
    refine ⟨vj, t, _, rfl, ty, ek, fun H1 s1 => ?_⟩
    replace hj := OQ.Dqd.same s1 hj
    replace hp := OQ.Dqd.same s1 hp
    replace hz := OQ.Dqd.same s1 hz
    replace hn := OQ.Dqd.same s1 hn
    cases er : RK.rowsOf dj with
    | none =>
      refine ⟨false, rfl, RD.d_iteNF ?_⟩
      walk_at "tx"
      exact ret4 k s1 (bad (by unfold RK.sizeB; rw [er]))
    | some ds =>
      have eB : RK.sizeB dj dp dz dn = (decide (2 ≤ ds.length ∧ ds.length ≤ 16) && (RK.squareB ds.length dj && (RK.squareB ds.length dp && (RK.belowB ds.length dz && RK.belowB ds.length dn)))) := by unfold RK.sizeB; rw [er]
      rw [eB] at bad
      refine ⟨true, rfl, RD.d_iteNT ?_⟩
      obtain ⟨a, xs, rfl, sa, da⟩ := OQ.dqd_row hj er
      have len := OQ.dqdAll_len da
      walk_at "tx"
      refine sa.len ?_
      walk_at "tx"
      rw [len]
      refine RD.iteD (fun c1 => ?_) (fun c1 => ?_)
      · walk_at "tx"
        refine RD.iteN (fun c2 => ?_) (fun c2 => ?_)
        · walk_at "tx"
          exact ret4 k s1 (bad (by rw [decide_eq_false (by omega), Bool.false_and]))
        rw [decide_eq_true (by omega : 2 ≤ ds.length ∧ ds.length ≤ 16), Bool.true_and] at bad eB
        walk_at "tx"
        refine sa.len ?_
        walk_at "tx"
        rw [len]
        refine ⟨ds.length, _, dj, rfl, by omega, hj, fun H2 s2 => ?_⟩
        have s12 := s1.trans s2
        replace hp := OQ.Dqd.same s2 hp
        replace hz := OQ.Dqd.same s2 hz
        replace hn := OQ.Dqd.same s2 hn
        cases e1 : RK.squareB ds.length dj with
        | false =>
          refine ⟨false, rfl, RD.d_iteNF ?_⟩
          walk_at "tx"
          exact ret4 k s12 (bad (by rw [e1, Bool.false_and]))
        | true =>
          rw [e1, Bool.true_and] at bad eB
          refine ⟨true, rfl, RD.d_iteNT ?_⟩
          walk_at "tx"
          refine ⟨ds.length, _, dp, rfl, by omega, hp, fun H3 s3 => ?_⟩
          have s13 := s12.trans s3
          replace hz := OQ.Dqd.same s3 hz
          replace hn := OQ.Dqd.same s3 hn
          cases e2 : RK.squareB ds.length dp with
          | false =>
            refine ⟨false, rfl, RD.d_iteNF ?_⟩
            walk_at "tx"
            exact ret4 k s13 (bad (by rw [e2, Bool.false_and]))
          | true =>
            rw [e2, Bool.true_and] at bad eB
            refine ⟨true, rfl, RD.d_iteNT ?_⟩
            walk_at "tx"
            refine ⟨ds.length, _, _, rfl, Bl.dq hz, ?_⟩
            cases e3 : RK.belowB ds.length dz with
            | false =>
              refine ⟨false, rfl, RD.d_iteNF ?_⟩
              walk_at "tx"
              exact ret4 k s13 (bad (by rw [e3, Bool.false_and]))
            | true =>
              rw [e3, Bool.true_and] at bad eB
              refine ⟨true, rfl, RD.d_iteNT ?_⟩
              walk_at "tx"
              refine ⟨ds.length, _, _, rfl, Bl.dq hn, ?_⟩
              cases e4 : RK.belowB ds.length dn with
              | false =>
                refine ⟨false, rfl, RD.d_iteNF ?_⟩
                walk_at "tx"
                exact ret4 k s13 (bad e4)
              | true =>
                refine ⟨true, rfl, RD.d_iteNT ?_⟩
                walk_at "tx"
                exact ret0 k s13 (by rw [eF]; unfold sizF; rw [if_pos (eB.trans e4)])
      · walk_at "tx"
        exact ret4 k s1 (bad (by rw [decide_eq_false (by omega), Bool.false_and]))
theorem ok_first_fault (T : Top K mg) : FnOk P w K mg base CX0 10 T.f_first_fault T.fd_first_fault ["joins", "products", "none", "one"] (spF fun vs H F => ∃ (vj vp vz vn : V) (dj dp dz dn : PyData), vs = [vj, vp, vz, vn] ∧ OQ.Dqd K H vj dj ∧ OQ.Dqd K H vp dp ∧ OQ.Dqd K H vz dz ∧ OQ.Dqd K H vn dn ∧ F = firstF dj dp dz dn) := by
  refine T.F_first_fault.ok sc_first_fault (fun vs H Q E h => ?_) (fun cdv A outer s H vs Q E hr h => ?_)
  · obtain ⟨F, ⟨vj, vp, vz, vn, dj, dp, dz, dn, rfl, _⟩, _⟩ := h; rfl
  · obtain ⟨F, ⟨vj, vp, vz, vn, dj, dp, dz, dn, rfl, hj, hp, hz, hn, eF⟩, k⟩ := h
    refine ⟨_, (pss_one (ps_ret (pe_orT (pe_call (ok_size_fault T) (hr.mono (by decide)) (by rfl) T.g_size_fault T.F_size_fault.kp T.b_size_fault .nil pass0 (pa_cons (pv 0) (pa_cons (pv 1) (pa_cons (pv 2) (pa_cons (pv 3) pa_nil))))) (pe_orT (pe_call (ok_none_fault T) (hr.mono (by decide)) (by rfl) T.g_none_fault T.F_none_fault.kp T.b_none_fault .nil pass0 (pa_cons (pv 0) (pa_cons (pv 1) (pa_cons (pv 2) pa_nil)))) (pe_orT (pe_call (ok_one_fault T) (hr.mono (by decide)) (by rfl) T.g_one_fault T.F_one_fault.kp T.b_one_fault .nil pass0 (pa_cons (pv 1) (pa_cons (pv 3) pa_nil))) (pe_orT (pe_call (ok_idle_fault T) (hr.mono (by decide)) (by rfl) T.g_idle_fault T.F_idle_fault.kp T.b_idle_fault .nil pass0 (pa_cons (pv 0) pa_nil)) (pe_orT (pe_call (ok_swap_fault T) (hr.mono (by decide)) (by rfl) T.g_swap_fault T.F_swap_fault.kp T.b_swap_fault .nil pass0 (pa_cons (pv 0) pa_nil)) (pe_orT (pe_call (ok_grouping_fault T) (hr.mono (by decide)) (by rfl) T.g_grouping_fault T.F_grouping_fault.kp T.b_grouping_fault .nil pass0 (pa_cons pe_str (pa_cons (pv 0) pa_nil))) (pe_orT (pe_call (ok_grouping_fault T) (hr.mono (by decide)) (by rfl) T.g_grouping_fault T.F_grouping_fault.kp T.b_grouping_fault .nil pass0 (pa_cons pe_str (pa_cons (pv 1) pa_nil))) (pe_orT (pe_call (ok_over_fault T) (hr.mono (by decide)) (by rfl) T.g_over_fault T.F_over_fault.kp T.b_over_fault .nil pass0 (pa_cons (pv 0) (pa_cons (pv 1) pa_nil))) (pe_one (pe_call (ok_same_fault T) (hr.mono (by decide)) (by rfl) T.g_same_fault T.F_same_fault.kp T.b_same_fault .nil pass0 (pa_cons (pv 2) (pa_cons (pv 3) pa_nil)))))))))))))), ?_⟩
    walk_at "tx"
    refine d_orT ?_
    walk_at "tx"
    refine ⟨_, ⟨vj, vp, vz, vn, dj, dp, dz, dn, rfl, hj, hp, hz, hn, rfl⟩, fun v1 H1 s1 f1 => ?_⟩
    by_cases eS : RK.sizeB dj dp dz dn = true
    · have e0 : sizF dj dp dz dn = none := if_pos eS
      rw [e0] at f1
      have eF : F = RK.restF (RK.cellsOf dj).length (RK.tabf dj) (RK.tabf dp) (RK.natOf dz) (RK.natOf dn) := by rw [eF]; unfold firstF; rw [e0]; rfl
      obtain ⟨n2, n16, qj, qp, qz, qn⟩ := size_ok eS
      generalize (RK.cellsOf dj).length = n at *
      obtain ⟨a, rfl, tj, wj⟩ := OQ.dqd_tab hj qj
      obtain ⟨b, rfl, tp, wp⟩ := OQ.dqd_tab hp qp
      obtain ⟨rfl, zn⟩ := below_nat hz qz
      obtain ⟨rfl, on⟩ := below_nat hn qn
      clear hj hp hz hn qj qp qz qn e0 eS
      generalize RK.tabf dj = J at *
      generalize RK.tabf dp = M at *
      generalize RK.natOf dz = z at *
      generalize RK.natOf dn = o at *
      unfold RK.restF at eF
      replace tj := tj.same s1
      replace tp := tp.same s1
      cases f1
      refine ⟨false, rfl, ?_⟩
      walk_at "tx"
      try refine d_orT ?_
      walk_at "tx"
      refine ⟨_, ⟨a, b, n, J, M, z, rfl, tj, tp, zn, n16, rfl⟩, fun v2 H2 s2 f2 => orF f2 eF (fun f => k _ _ (s1.trans s2) f) (fun eF => ?_)⟩
      replace tj := tj.same s2
      replace tp := tp.same s2
      replace s1 := s1.trans s2
      clear f2 s2
      walk_at "tx"
      try refine d_orT ?_
      walk_at "tx"
      refine ⟨_, ⟨b, n, M, o, rfl, tp, on, n16, rfl⟩, fun v3 H3 s3 f3 => orF f3 eF (fun f => k _ _ (s1.trans s3) f) (fun eF => ?_)⟩
      replace tj := tj.same s3
      replace tp := tp.same s3
      replace s1 := s1.trans s3
      clear f3 s3
      walk_at "tx"
      try refine d_orT ?_
      walk_at "tx"
      refine ⟨_, ⟨a, n, J, rfl, tj, n16, rfl⟩, fun v4 H4 s4 f4 => orF f4 eF (fun f => k _ _ (s1.trans s4) f) (fun eF => ?_)⟩
      replace tj := tj.same s4
      replace tp := tp.same s4
      replace s1 := s1.trans s4
      clear f4 s4
      walk_at "tx"
      try refine d_orT ?_
      walk_at "tx"
      refine ⟨_, ⟨a, n, J, rfl, tj, n16, rfl⟩, fun v5 H5 s5 f5 => orF f5 eF (fun f => k _ _ (s1.trans s5) f) (fun eF => ?_)⟩
      replace tj := tj.same s5
      replace tp := tp.same s5
      replace s1 := s1.trans s5
      clear f5 s5
      walk_at "tx"
      try refine d_orT ?_
      walk_at "tx"
      refine ⟨_, ⟨_, a, n, J, rfl, tj, n16, wj, rfl⟩, fun v6 H6 s6 f6 => orF f6 eF (fun f => k _ _ (s1.trans s6) f) (fun eF => ?_)⟩
      replace tj := tj.same s6
      replace tp := tp.same s6
      replace s1 := s1.trans s6
      clear f6 s6
      walk_at "tx"
      try refine d_orT ?_
      walk_at "tx"
      refine ⟨_, ⟨_, b, n, M, rfl, tp, n16, wp, rfl⟩, fun v7 H7 s7 f7 => orF f7 eF (fun f => k _ _ (s1.trans s7) f) (fun eF => ?_)⟩
      replace tj := tj.same s7
      replace tp := tp.same s7
      replace s1 := s1.trans s7
      clear f7 s7
      walk_at "tx"
      try refine d_orT ?_
      walk_at "tx"
      refine ⟨_, ⟨a, b, n, J, M, rfl, tj, tp, n16, wj, wp, rfl⟩, fun v8 H8 s8 f8 => orF f8 eF (fun f => k _ _ (s1.trans s8) f) (fun eF => ?_)⟩
      replace tj := tj.same s8
      replace tp := tp.same s8
      replace s1 := s1.trans s8
      clear f8 s8
      walk_at "tx"
      try refine d_orT ?_
      walk_at "tx"
      exact ⟨_, ⟨z, o, rfl, rfl⟩, fun v H' s' f => k _ _ (s1.trans s') (by rw [eF]; exact f)⟩
    · have e0 : sizF dj dp dz dn = some (("size" : Str), -1, -1, -1) := if_neg eS
      rw [e0] at f1
      have eF : F = some (("size" : Str), -1, -1, -1) := by rw [eF]; unfold firstF; rw [e0]; rfl
      obtain ⟨p, rfl, hp'⟩ := id f1
      refine ⟨true, .inr (.inl ⟨_, SqT.of hp', rfl⟩), RD.d_iteT ?_⟩
      exact k _ _ s1 (by rw [eF]; exact f1)
end

/-! ### a reckoning's own tables, its inner methods -/
open OQ (TabX RowX)
def jall (J : Nat → Nat → Nat) (z : Nat) (ws : List Nat) : Nat := ws.foldl (fun f w => J f w) z
def meetF (n : Nat) (J : Nat → Nat → Nat) (z a b : Nat) : Nat := jall J z (((List.range n).filter fun w => decide (J w a = a)).filter fun w => decide (J w b = b))
def leftF (n : Nat) (J M : Nat → Nat → Nat) (z a c : Nat) : Nat := jall J z ((List.range n).filter fun b => decide (J (M a b) c = c))
def rightF (n : Nat) (J M : Nat → Nat → Nat) (z c a : Nat) : Nat := jall J z ((List.range n).filter fun b => decide (J (M b a) c = c))
theorem jall_lt {n : Nat} {J : Nat → Nat → Nat} {z : Nat} (zn : z < n) (wj : ∀ a b, a < n → b < n → J a b < n) : ∀ ws : List Nat, (∀ j ∈ ws, j < n) → jall J z ws < n := by
  intro ws
  induction ws generalizing z with
  | nil => intro _; exact zn
  | cons w ws ih =>
    intro h
    show jall J (J z w) ws < n
    exact ih (wj _ _ zn (h w (List.mem_cons_self ..))) fun j m => h j (List.mem_cons_of_mem _ m)
theorem jall_snoc {J : Nat → Nat → Nat} {z w : Nat} {ws : List Nat} : jall J z (ws ++ [w]) = J (jall J z ws) w := by
  unfold jall
  rw [List.foldl_append]; rfl
theorem filt_succ {p : Nat → Bool} {i : Nat} : (List.range (i + 1)).filter p = (List.range i).filter p ++ (if p i = true then [i] else []) := by
  rw [List.range_succ, List.filter_append]
  congr 1
  by_cases c : p i = true
  · rw [if_pos c]; simp [c]
  · rw [if_neg c]; simp [c]
theorem filt_take {p : Nat → Bool} {ws : List Nat} {i j : Nat} (e : ws[i]? = some j) : (ws.take (i + 1)).filter p = (ws.take i).filter p ++ (if p j = true then [j] else []) := by
  rw [List.take_succ, e, List.filter_append]
  congr 1
  by_cases c : p j = true
  · rw [if_pos c]; simp [c]
  · rw [if_neg c]; simp [c]
/-- one more number of a list of ours -/
theorem lput {H H' : Hp} {D : Addr} {us : List Nat} {j : Nat} {v : V} (hD : H D = none) (s : Same H H') (eD : H' D = some (.lst (WW.Ns us))) (l : us.length ≤ 100) (ev : v = .int (j : Nat)) :
    ∃ acc, H' D = some (.lst acc) ∧ acc.length < sizeLine ∧ Same H (upd H' D (.lst (acc ++ [v]))) ∧ upd H' D (.lst (acc ++ [v])) D = some (.lst (WW.Ns (us ++ [j]))) := by
  subst ev
  exact ⟨_, eD, by rw [WW.Ns_len]; exact Nat.lt_of_le_of_lt l (by decide), same_put s hD, by rw [upd_same, WW.Ns_app]⟩
/-- the object at x has these tables, and none -/
structure Rek (K : PySem.W.Frag) (C : Addr) (H : Hp) (x : Addr) (n : Nat) (J M : Nat → Nat → Nat) (z : Nat) : Prop where
  zn : z < n
  n16 : n ≤ 16
  wj : ∀ a b, a < n → b < n → J a b < n
  wp : ∀ a b, a < n → b < n → M a b < n
  has : ∃ (dx jt pt : Addr) (fs : List (Str × V)), H x = some (.ins C dx fs) ∧ fs.lookup ("joins" : Str) = some (.ref jt) ∧ TabX K H jt n J ∧ fs.lookup ("products" : Str) = some (.ref pt) ∧ TabX K H pt n M ∧ fs.lookup ("none" : Str) = some (.int z) ∧
    ∀ m ∈ ([("_joined" : Str), ("_meet" : Str), ("_left" : Str), ("_right" : Str), ("is_worth" : Str), ("beneath" : Str), ("join" : Str), ("times" : Str), ("meet" : Str), ("greatest" : Str), ("left" : Str), ("right" : Str)] : List Str), fs.lookup m = none
theorem Rek.same {K : PySem.W.Frag} {C : Addr} {H H' : Hp} {x : Addr} {n : Nat} {J M : Nat → Nat → Nat} {z : Nat} (h : Rek K C H x n J M z) (s : Same H H') : Rek K C H' x n J M z := by
  obtain ⟨dx, jt, pt, fs, e, l1, t1, l2, t2, r⟩ := h.has
  exact ⟨h.zn, h.n16, h.wj, h.wp, dx, jt, pt, fs, s _ _ e, l1, t1.same s, l2, t2.same s, r⟩
def spJoined (K : PySem.W.Frag) (C : Addr) : Sp := fun vs H Q _ => ∃ (x l : Addr) (n : Nat) (J M : Nat → Nat → Nat) (z : Nat) (ws : List Nat), vs = [.ref x, .ref l] ∧ Rek K C H x n J M z ∧ H l = some (.lst (WW.Ns ws)) ∧ (∀ j ∈ ws, j < n) ∧ Q (.int (jall J z ws : Nat)) H
def spTwoW (K : PySem.W.Frag) (C : Addr) (f : Nat → (Nat → Nat → Nat) → (Nat → Nat → Nat) → Nat → Nat → Nat → Nat) : Sp := fun vs H Q _ => ∃ (x : Addr) (n : Nat) (J M : Nat → Nat → Nat) (z a b : Nat), vs = [.ref x, .int a, .int b] ∧ Rek K C H x n J M z ∧ a < n ∧ b < n ∧ ∀ H', Same H H' → Q (.int (f n J M z a b : Nat)) H'
section
variable {P : Program} {w : World} {K : PySem.W.Frag} {mg : Str → Option Value} {base : Heap} {H : Hp} {R : V → Prop}
theorem rekJ (T : Top K mg) {x : Addr} {n : Nat} {J M : Nat → Nat → Nat} {z : Nat} (h : Rek K T.C_Reckoning H x n J M z) (k : ∀ jt, TabX K H jt n J → R (.ref jt)) : ∃ a' C dx fs v, V.ref x = .ref a' ∧ H a' = some (.ins C dx fs) ∧ Cls K C ∧ NoAttr K C "joins" ∧ fs.lookup ("joins" : Str) = some v ∧ R v := by
  obtain ⟨dx, jt, pt, fs, e, l1, t1, _⟩ := h.has
  exact ⟨x, _, dx, fs, _, rfl, e, T.cl_Reckoning, T.na_Reckoning_joins, l1, k jt t1⟩
theorem rekP (T : Top K mg) {x : Addr} {n : Nat} {J M : Nat → Nat → Nat} {z : Nat} (h : Rek K T.C_Reckoning H x n J M z) (k : ∀ pt, TabX K H pt n M → R (.ref pt)) : ∃ a' C dx fs v, V.ref x = .ref a' ∧ H a' = some (.ins C dx fs) ∧ Cls K C ∧ NoAttr K C "products" ∧ fs.lookup ("products" : Str) = some v ∧ R v := by
  obtain ⟨dx, jt, pt, fs, e, l1, t1, l2, t2, _⟩ := h.has
  exact ⟨x, _, dx, fs, _, rfl, e, T.cl_Reckoning, T.na_Reckoning_products, l2, k pt t2⟩
theorem rekN (T : Top K mg) {x : Addr} {n : Nat} {J M : Nat → Nat → Nat} {z : Nat} (h : Rek K T.C_Reckoning H x n J M z) (k : R (.int z)) : ∃ a' C dx fs v, V.ref x = .ref a' ∧ H a' = some (.ins C dx fs) ∧ Cls K C ∧ NoAttr K C "none" ∧ fs.lookup ("none" : Str) = some v ∧ R v := by
  obtain ⟨dx, jt, pt, fs, e, l1, t1, l2, t2, l3, _⟩ := h.has
  exact ⟨x, _, dx, fs, _, rfl, e, T.cl_Reckoning, T.na_Reckoning_none, l3, k⟩
theorem rekM {C : Addr} {x : Addr} {n : Nat} {J M : Nat → Nat → Nat} {z : Nat} {m : Str} {R : Prop} (h : Rek K C H x n J M z) (hm : m ∈ ([("_joined" : Str), ("_meet" : Str), ("_left" : Str), ("_right" : Str), ("is_worth" : Str), ("beneath" : Str), ("join" : Str), ("times" : Str), ("meet" : Str), ("greatest" : Str), ("left" : Str), ("right" : Str)] : List Str)) (k : R) : ∃ a' dx fs, V.ref x = .ref a' ∧ H a' = some (.ins C dx fs) ∧ fs.lookup m = none ∧ R := by
  obtain ⟨dx, jt, pt, fs, e, l1, t1, l2, t2, l3, ms⟩ := h.has
  exact ⟨x, dx, fs, rfl, e, ms m hm, k⟩
theorem ok_Reckoning_Ujoined (T : Top K mg) : FnOk P w K mg base CX0 1 T.f_Reckoning_Ujoined T.fd_Reckoning_Ujoined ["self", "worths"] (spJoined K T.C_Reckoning) := by
  refine T.F_Reckoning_Ujoined.ok sc_Reckoning_Ujoined (fun vs H Q E h => ?_) (fun cdv A outer s H vs Q E hr h => ?_)
  · obtain ⟨x, l, n, J, M, z, ws, rfl, _⟩ := h; rfl
  · obtain ⟨x, l, n, J, M, z, ws, rfl, re, el, all, k⟩ := h
    refine ⟨_, (pss_cons (ps_set (i := 2) sc_Reckoning_Ujoined.nd rfl (Or.inl rfl) (pe_fld (pv 0) (by rfl)))
 (pss_cons (ps_for PassesOwn.never rfl (pi_list (pv 1)) (pg_name (i := 3) sc_Reckoning_Ujoined.nd rfl (Or.inl rfl))
 (pss_one (ps_set (i := 2) sc_Reckoning_Ujoined.nd rfl (Or.inl rfl) (pe_ix OQ.ix_seq (pe_ix OQ.ix_seq (pe_fld (pv 0) (by rfl)) (pv 2) (fun _ _ => rfl)) (pv 3) (fun _ _ => rfl)))))
 (pss_one (ps_ret (pv 2))))), ?_⟩
    walk_at "tx"
    refine rekN T re ?_
    walk_at "tx"
    refine RD.f_list (K := K) (a := l) (xs := WW.Ns ws) (fun i σ' H' => ∃ v : Option V, σ' = [some (.ref x), some (.ref l), some (.int (jall J z (ws.take i) : Nat)), v] ∧ H' = H) ⟨none, rfl, rfl⟩ ?_ ?_ ?_
    · rintro i σ' H' _ ⟨v, _, rfl⟩
      exact SqL.of el
    · rintro i y σ' H' hy ⟨v, rfl, rfl⟩
      obtain ⟨j, hj, rfl⟩ := WW.Ns_get hy
      have jn := all j (List.mem_of_getElem? hj)
      have fn := jall_lt re.zn re.wj (ws.take i) fun q m => all q (List.mem_of_mem_take m)
      walk_at "tx"
      refine rekJ T re (fun jt tj => ?_)
      walk_at "tx"
      refine OQ.xT (m := jall J z (ws.take i)) tj rfl fn (fun r hr => ?_)
      walk_at "tx"
      refine OQ.xR (m := j) hr rfl jn ?_
      refine ⟨some (.int (j : Nat)), ?_, rfl⟩
      have e : jall J z (ws.take (i + 1)) = J (jall J z (ws.take i)) j := by
        rw [List.take_succ, hj]
        exact jall_snoc
      rw [e]
      rfl
    · rintro σ' H' ⟨v, rfl, rfl⟩
      rw [WW.Ns_len, List.take_length]
      walk_at "tx"
      exact k
theorem ok_Reckoning_Umeet (T : Top K mg) : FnOk P w K mg base CX0 3 T.f_Reckoning_Umeet T.fd_Reckoning_Umeet ["self", "a", "b"] (spTwoW K T.C_Reckoning fun n J _ z a b => meetF n J z a b) := by
  refine T.F_Reckoning_Umeet.ok sc_Reckoning_Umeet (fun vs H Q E h => ?_) (fun cdv A outer s H vs Q E hr h => ?_)
  · obtain ⟨x, n, J, M, z, a, b, rfl, _⟩ := h; rfl
  · obtain ⟨x, n, J, M, z, a, b, rfl, re, ha, hb, k⟩ := h
    refine ⟨_, (pss_cons (ps_setLc (i := 3) (own := [("worth", 4)]) (g := (gName 4)) (tt := _) rfl sc_Reckoning_Umeet.nd rfl rfl (sw_true rfl rfl rfl (by decide +kernel)) (pi_range1 (by rfl) T.n_range (pa_cons (pe_callB RD.c_len (by rfl) T.n_len (by decide +kernel) (pa_cons (pe_fld (pv 0) (by rfl)) pa_nil)) pa_nil)) (blkOk_by (own := [("worth", 4)]) (N := ["self", "a", "b", "below", "worth"]) (sc := defScope s_Reckoning_Umeet) (by decide +kernel)) (fun _ _ _ _ _ => (pg_name (i := 4) sc_Reckoning_Umeet.nd rfl (Or.inl rfl))) (fun _ _ _ _ _ => (pts_one (pt_cmpR op_eq (pe_ix (OQ.ixA K) (pe_ix (OQ.ixA K) (OQ.fldK K (pv 0)) (pv 4) (fun _ _ => rfl)) (pv 1) (fun _ _ => rfl)) (pv 1) (nomark _)))) (fun _ _ _ _ _ => (pv 4)))
 (pss_one (ps_ret (pe_meth (pv 0) T.cl_Reckoning T.m_Reckoning_Ujoined (ok_Reckoning_Ujoined T) (hr.mono (by decide)) T.b_Reckoning_Ujoined .nil pass0 (pa_cons (pe_lc (own := [("worth", 4)]) (g := (gName 4)) (tt := _) rfl sc_Reckoning_Umeet.nd (pi_list (pv 3)) (blkOk_by (own := [("worth", 4)]) (N := ["self", "a", "b", "below", "worth"]) (sc := defScope s_Reckoning_Umeet) (by decide +kernel)) (fun _ _ _ _ _ => (pg_name (i := 4) sc_Reckoning_Umeet.nd rfl (Or.inl rfl))) (fun _ _ _ _ _ => (pts_one (pt_cmpR op_eq (pe_ix (OQ.ixA K) (pe_ix (OQ.ixA K) (OQ.fldK K (pv 0)) (pv 4) (fun _ _ => rfl)) (pv 2) (fun _ _ => rfl)) (pv 2) (nomark _)))) (fun _ _ _ _ _ => (pv 4))) pa_nil))))), ?_⟩
    have n16 := re.n16
    walk_at "tx"
    refine rekJ T re (fun jt tt => ?_)
    walk_at "tx"
    refine tt.len ?_
    refine ⟨n, rfl, by omega, by omega, ?_⟩
    intro D hD
    refine lc_range (lo := 0) (n := n) (fun i H' => Same H H' ∧ H' D = some (.lst (WW.Ns ((List.range i).filter fun w => decide (J w a = a))))) ⟨same_upd hD, upd_same⟩ ?_ ?_
    · rintro i H' hi ⟨s1, eD⟩
      have re1 := re.same s1
      walk_at "tx"
      refine rekJ T re1 (fun jt1 tt1 => ?_)
      walk_at "tx"
      refine OQ.xT (m := i) tt1 (by omega) hi (fun q hq => ?_)
      walk_at "tx"
      refine OQ.xR (m := a) hq rfl ha ?_
      walk_at "tx"
      rw [filt_succ]
      refine RD.iteD (fun c => ?_) (fun c => ?_)
      · rw [if_pos (decide_eq_true (by omega))]
        walk_at "tx"
        exact lput hD s1 eD (Nat.le_trans (List.length_filter_le ..) (by rw [List.length_range]; omega)) (by rw [Int.zero_add])
      · rw [if_neg (by rw [decide_eq_true_eq]; omega), List.append_nil]
        exact ⟨s1, eD⟩
    · rintro H' ⟨s1, eD⟩
      generalize hws : ((List.range n).filter fun w => decide (J w a = a)) = ws at *
      have all : ∀ j ∈ ws, j < n := fun j m => by rw [← hws] at m; exact List.mem_range.mp ((List.mem_filter.mp m).1)
      have wl : ws.length ≤ 16 := by rw [← hws]; exact Nat.le_trans (List.length_filter_le ..) (by rw [List.length_range]; omega)
      have re1 := re.same s1
      walk_at "tx"
      refine rekM re1 (by simp) ?_
      walk_at "tx"
      intro D2 hD2
      refine lc_list (K := K) (a := D) (xs := WW.Ns ws) (fun i H'' => Same H' H'' ∧ H'' D2 = some (.lst (WW.Ns ((ws.take i).filter fun w => decide (J w b = b))))) ⟨same_upd hD2, upd_same⟩ ?_ ?_ ?_
      · rintro i H'' _ ⟨s2, _⟩
        exact SqL.of (s2 _ _ eD)
      · rintro i y H'' hi ⟨s2, eD2⟩
        obtain ⟨j, hj, rfl⟩ := WW.Ns_get hi
        have jn := all j (List.mem_of_getElem? hj)
        walk_at "tx"
        refine rekJ T (re1.same s2) (fun jt1 tt1 => ?_)
        walk_at "tx"
        refine OQ.xT (m := j) tt1 rfl jn (fun q hq => ?_)
        walk_at "tx"
        refine OQ.xR (m := b) hq rfl hb ?_
        walk_at "tx"
        rw [filt_take hj]
        refine RD.iteD (fun c => ?_) (fun c => ?_)
        · rw [if_pos (decide_eq_true (by omega))]
          walk_at "tx"
          exact lput hD2 s2 eD2 (Nat.le_trans (List.length_filter_le ..) (by rw [List.length_take]; omega)) rfl
        · rw [if_neg (by rw [decide_eq_true_eq]; omega), List.append_nil]
          exact ⟨s2, eD2⟩
      · rintro H'' ⟨s2, eD2⟩
        rw [WW.Ns_len, List.take_length] at eD2
        walk_at "tx"
        refine ⟨x, D2, n, J, M, z, _, rfl, re1.same s2, eD2, fun j m => all j ((List.mem_filter.mp m).1), ?_⟩
        have q : Q (.int (meetF n J z a b : Nat)) H'' := k _ (s1.trans s2)
        unfold meetF at q
        rw [hws] at q
        exact q
theorem ok_Reckoning_Uleft (T : Top K mg) : FnOk P w K mg base CX0 3 T.f_Reckoning_Uleft T.fd_Reckoning_Uleft ["self", "a", "c"] (spTwoW K T.C_Reckoning leftF) := by
  refine T.F_Reckoning_Uleft.ok sc_Reckoning_Uleft (fun vs H Q E h => ?_) (fun cdv A outer s H vs Q E hr h => ?_)
  · obtain ⟨x, n, J, M, z, a, b, rfl, _⟩ := h; rfl
  · obtain ⟨x, n, J, M, z, a, c, rfl, re, ha, hc, k⟩ := h
    refine ⟨_, (pss_cons (ps_set (i := 3) sc_Reckoning_Uleft.nd rfl (Or.inr rfl) (pe_ix OQ.ix_seq (pe_fld (pv 0) (by rfl)) (pv 1) (fun _ _ => rfl)))
 (pss_one (ps_ret (pe_meth (pv 0) T.cl_Reckoning T.m_Reckoning_Ujoined (ok_Reckoning_Ujoined T) (hr.mono (by decide)) T.b_Reckoning_Ujoined .nil pass0 (pa_cons (pe_lc (own := [("b", 4)]) (g := (gName 4)) (tt := _) rfl sc_Reckoning_Uleft.nd (pi_range1 (by rfl) T.n_range (pa_cons (pe_callB RD.c_len (by rfl) T.n_len (by decide +kernel) (pa_cons (pv 3) pa_nil)) pa_nil)) (blkOk_by (own := [("b", 4)]) (N := ["self", "a", "c", "row", "b"]) (sc := defScope s_Reckoning_Uleft) (by decide +kernel)) (fun _ _ _ _ _ => (pg_name (i := 4) sc_Reckoning_Uleft.nd rfl (Or.inl rfl))) (fun _ _ _ _ _ => (pts_one (pt_cmpR op_eq (pe_ix (OQ.ixA K) (pe_ix (OQ.ixA K) (OQ.fldK K (pv 0)) (pe_ix (OQ.ixA K) (pv 3) (pv 4) (fun _ _ => rfl)) (fun _ _ => rfl)) (pv 2) (fun _ _ => rfl)) (pv 2) (nomark _)))) (fun _ _ _ _ _ => (pv 4))) pa_nil))))), ?_⟩
    have n16 := re.n16
    walk_at "tx"
    refine rekP T re (fun pt tp => ?_)
    walk_at "tx"
    refine OQ.xT (m := a) tp rfl ha (fun r hr => ?_)
    walk_at "tx"
    refine rekM re (by simp) ?_
    walk_at "tx"
    refine hr.len ?_
    refine ⟨n, rfl, by omega, by omega, ?_⟩
    intro D hD
    refine lc_range (lo := 0) (n := n) (fun i H' => Same H H' ∧ H' D = some (.lst (WW.Ns ((List.range i).filter fun b => decide (J (M a b) c = c))))) ⟨same_upd hD, upd_same⟩ ?_ ?_
    · rintro i H' hi ⟨s1, eD⟩
      have re1 := re.same s1
      walk_at "tx"
      refine rekJ T re1 (fun jt1 tt1 => ?_)
      walk_at "tx"
      refine OQ.xR (m := i) (OQ.SeqAt.same hr s1) (by omega) hi ?_
      walk_at "tx"
      refine OQ.xT (m := M a i) tt1 rfl (re.wp a i ha hi) (fun q hq => ?_)
      walk_at "tx"
      refine OQ.xR (m := c) hq rfl hc ?_
      walk_at "tx"
      rw [filt_succ]
      refine RD.iteD (fun c1 => ?_) (fun c1 => ?_)
      · rw [if_pos (decide_eq_true (by omega))]
        walk_at "tx"
        exact lput hD s1 eD (Nat.le_trans (List.length_filter_le ..) (by rw [List.length_range]; omega)) (by rw [Int.zero_add])
      · rw [if_neg (by rw [decide_eq_true_eq]; omega), List.append_nil]
        exact ⟨s1, eD⟩
    · rintro H' ⟨s1, eD⟩
      walk_at "tx"
      exact ⟨x, D, n, J, M, z, _, rfl, re.same s1, eD, fun j m => List.mem_range.mp ((List.mem_filter.mp m).1), k _ s1⟩
theorem ok_Reckoning_Uright (T : Top K mg) : FnOk P w K mg base CX0 3 T.f_Reckoning_Uright T.fd_Reckoning_Uright ["self", "c", "a"] (spTwoW K T.C_Reckoning rightF) := by
  refine T.F_Reckoning_Uright.ok sc_Reckoning_Uright (fun vs H Q E h => ?_) (fun cdv A outer s H vs Q E hr h => ?_)
  · obtain ⟨x, n, J, M, z, a, b, rfl, _⟩ := h; rfl
  · obtain ⟨x, n, J, M, z, c, a, rfl, re, hc, ha, k⟩ := h
    refine ⟨_, (pss_cons (ps_set (i := 3) sc_Reckoning_Uright.nd rfl (Or.inr rfl) (pe_lc (own := [("row", 4)]) (g := (gName 4)) (tt := tYes) rfl sc_Reckoning_Uright.nd (OQ.pi_seq (pe_fld (pv 0) (by rfl))) (blkOk_by (own := [("row", 4)]) (N := ["self", "c", "a", "column", "row", "b"]) (sc := defScope s_Reckoning_Uright) (by decide +kernel)) (fun _ _ _ _ _ => (pg_name (i := 4) sc_Reckoning_Uright.nd rfl (Or.inl rfl))) (fun _ _ _ _ _ => pts_nil) (fun _ _ _ _ _ => (pe_ix (OQ.ixA K) (pv 4) (pv 2) (fun _ _ => rfl)))))
 (pss_one (ps_ret (pe_meth (pv 0) T.cl_Reckoning T.m_Reckoning_Ujoined (ok_Reckoning_Ujoined T) (hr.mono (by decide)) T.b_Reckoning_Ujoined .nil pass0 (pa_cons (pe_lc (own := [("b", 5)]) (g := (gName 5)) (tt := _) rfl sc_Reckoning_Uright.nd (pi_range1 (by rfl) T.n_range (pa_cons (pe_callB RD.c_len (by rfl) T.n_len (by decide +kernel) (pa_cons (pv 3) pa_nil)) pa_nil)) (blkOk_by (own := [("b", 5)]) (N := ["self", "c", "a", "column", "row", "b"]) (sc := defScope s_Reckoning_Uright) (by decide +kernel)) (fun _ _ _ _ _ => (pg_name (i := 5) sc_Reckoning_Uright.nd rfl (Or.inl rfl))) (fun _ _ _ _ _ => (pts_one (pt_cmpR op_eq (pe_ix (OQ.ixA K) (pe_ix (OQ.ixA K) (OQ.fldK K (pv 0)) (pe_ix (OQ.ixL K) (pv 3) (pv 5) (fun _ _ => rfl)) (fun _ _ => rfl)) (pv 1) (fun _ _ => rfl)) (pv 1) (nomark _)))) (fun _ _ _ _ _ => (pv 5))) pa_nil))))), ?_⟩
    have n16 := re.n16
    walk_at "tx"
    obtain ⟨dx, jt, pt, fs, ex, l1, tj0, l2, tp0, l3, ms⟩ := id re.has
    obtain ⟨rs, len, sa, rows⟩ := id tp0
    refine OQ.d_seqFld rfl ex T.cl_Reckoning T.na_Reckoning_products l2 sa (fun W G hw hG => fun D hD => ?_)
    rw [List.length_map, len] at hw
    refine lc_it hw (fun i H' => Same H H' ∧ H' D = some (.lst (WW.Ns ((List.range i).map fun b => M b a)))) ⟨same_upd hD, upd_same⟩ (fun i H' _ q => hG _ q.1) ?_ ?_
    · rintro i y H' H'' il ⟨s1, eD⟩ ⟨rfl, e2⟩
      have ir : i < rs.length := by rw [len]; exact il
      rw [List.getElem?_map, List.getElem?_eq_getElem ir] at e2
      cases e2
      have hr := OQ.SeqAt.same (rows i _ (List.getElem?_eq_getElem ir)) s1
      walk_at "tx"
      refine OQ.xR (m := a) hr rfl ha ?_
      have := lput (j := M i a) hD s1 eD (by rw [List.length_map, List.length_range]; omega) rfl
      rwa [show ((List.range i).map fun b => M b a) ++ [M i a] = (List.range (i + 1)).map fun b => M b a from by rw [List.range_succ, List.map_append]; rfl] at this
    · rintro H' ⟨s1, eD⟩
      have re1 := re.same s1
      walk_at "tx"
      refine rekM re1 (by simp) ?_
      walk_at "tx"
      rw [WW.Ns_len, List.length_map, List.length_range]
      refine ⟨n, rfl, by omega, by omega, ?_⟩
      intro D2 hD2
      refine lc_range (lo := 0) (n := n) (fun i H'' => Same H' H'' ∧ H'' D2 = some (.lst (WW.Ns ((List.range i).filter fun b => decide (J (M b a) c = c))))) ⟨same_upd hD2, upd_same⟩ ?_ ?_
      · rintro i H'' hi ⟨s2, eD2⟩
        walk_at "tx"
        refine rekJ T (re1.same s2) (fun jt1 tt1 => ?_)
        walk_at "tx"
        refine RD.d_ixL (SqL.of (s2 _ _ eD)) (v := .int (M i a : Nat)) (by rw [Int.zero_add]; exact atI_nat (by unfold WW.Ns; rw [List.map_map, List.getElem?_map, List.getElem?_range hi]; rfl)) ?_
        walk_at "tx"
        refine OQ.xT (m := M i a) tt1 rfl (re.wp i a hi ha) (fun q hq => ?_)
        walk_at "tx"
        refine OQ.xR (m := c) hq rfl hc ?_
        walk_at "tx"
        rw [filt_succ]
        refine RD.iteD (fun c1 => ?_) (fun c1 => ?_)
        · rw [if_pos (decide_eq_true (by omega))]
          walk_at "tx"
          exact lput hD2 s2 eD2 (Nat.le_trans (List.length_filter_le ..) (by rw [List.length_range]; omega)) (by rw [Int.zero_add])
        · rw [if_neg (by rw [decide_eq_true_eq]; omega), List.append_nil]
          exact ⟨s2, eD2⟩
      · rintro H'' ⟨s2, eD2⟩
        walk_at "tx"
        exact ⟨x, D2, n, J, M, z, _, rfl, re1.same s2, eD2, fun j m => List.mem_range.mp (List.mem_filter.mp m).1, k _ (s1.trans s2)⟩
end

/-! ### a reckoning made -/
open OQ (TabX RowX SeqAt)
open RK (Fl FltAt)
/-- rows as tuples -/
def TabXT (K : PySem.W.Frag) (H : Hp) (a : Addr) (n : Nat) (f : Nat → Nat → Nat) : Prop := ∃ rs : List Addr, rs.length = n ∧ SqT K H a (rs.map V.ref) ∧ ∀ (i : Nat) (r : Addr), rs[i]? = some r → SqT K H r ((List.range n).map fun j => V.int (f i j : Nat))
/-- rows as lists -/
def TabXL (H : Hp) (a : Addr) (n : Nat) (f : Nat → Nat → Nat) : Prop := ∃ rs : List Addr, rs.length = n ∧ H a = some (.lst (rs.map V.ref)) ∧ ∀ (i : Nat) (r : Addr), rs[i]? = some r → H r = some (.lst ((List.range n).map fun j => V.int (f i j : Nat)))
theorem TabXT.x {K : PySem.W.Frag} {H : Hp} {a : Addr} {n : Nat} {f : Nat → Nat → Nat} (h : TabXT K H a n f) : TabX K H a n f := by
  obtain ⟨rs, l, e, q⟩ := h
  exact ⟨rs, l, .inr e, fun i r z => .inr (q i r z)⟩
theorem TabXL.x {K : PySem.W.Frag} {H : Hp} {a : Addr} {n : Nat} {f : Nat → Nat → Nat} (h : TabXL H a n f) : TabX K H a n f := by
  obtain ⟨rs, l, e, q⟩ := h
  exact ⟨rs, l, .inl (SqL.of e), fun i r z => .inl (SqL.of (q i r z))⟩
theorem sqT_kx {K : PySem.W.Frag} {H H' : Hp} {x C dx a : Addr} {fs : List (Str × V)} {xs : List V} (h : SqT K H a xs) (ex : H x = some (.ins C dx fs)) (k : Kx x H H') : SqT K H' a xs := by
  rcases h with (h | ⟨o, h⟩) | h
  · exact .inl (.inl (k _ _ (fun z => by subst z; rw [ex] at h; cases h) h))
  · exact .inl (.inr ⟨o, k _ _ (fun z => by subst z; rw [ex] at h; cases h) h⟩)
  · exact .inr h
theorem sqL_kx {K : PySem.W.Frag} {H H' : Hp} {x C dx a : Addr} {fs : List (Str × V)} {xs : List V} (h : SqL K H a xs) (ex : H x = some (.ins C dx fs)) (k : Kx x H H') : SqL K H' a xs := by
  rcases h with (h | ⟨o, h⟩) | h
  · exact .inl (.inl (k _ _ (fun z => by subst z; rw [ex] at h; cases h) h))
  · exact .inl (.inr ⟨o, k _ _ (fun z => by subst z; rw [ex] at h; cases h) h⟩)
  · exact .inr h
theorem sqT_lst {K : PySem.W.Frag} {H : Hp} {D a : Addr} {ys xs : List V} {o : HO} (h : SqT K H a xs) (eD : H D = some (.lst ys)) : SqT K (upd H D o) a xs := by
  rcases h with (h | ⟨o', h⟩) | h
  · exact .inl (.inl (by rw [upd_ne (fun z => by subst z; rw [eD] at h; cases h)]; exact h))
  · exact .inl (.inr ⟨o', by rw [upd_ne (fun z => by subst z; rw [eD] at h; cases h)]; exact h⟩)
  · exact .inr h
theorem SeqAt_kx {K : PySem.W.Frag} {H H' : Hp} {x C dx a : Addr} {fs : List (Str × V)} {xs : List V} (h : SeqAt K H a xs) (ex : H x = some (.ins C dx fs)) (k : Kx x H H') : SeqAt K H' a xs :=
  h.imp (fun h => sqL_kx h ex k) fun h => sqT_kx h ex k
theorem TabX.kx {K : PySem.W.Frag} {H H' : Hp} {x C dx a : Addr} {fs : List (Str × V)} {n : Nat} {f : Nat → Nat → Nat} (h : TabX K H a n f) (ex : H x = some (.ins C dx fs)) (k : Kx x H H') : TabX K H' a n f := by
  obtain ⟨rs, l, e, q⟩ := h
  exact ⟨rs, l, SeqAt_kx e ex k, fun i r z => SeqAt_kx (q i r z) ex k⟩
theorem TabXT.kx {K : PySem.W.Frag} {H H' : Hp} {x C dx a : Addr} {fs : List (Str × V)} {n : Nat} {f : Nat → Nat → Nat} (h : TabXT K H a n f) (ex : H x = some (.ins C dx fs)) (k : Kx x H H') : TabXT K H' a n f := by
  obtain ⟨rs, l, e, q⟩ := h
  exact ⟨rs, l, sqT_kx e ex k, fun i r z => sqT_kx (q i r z) ex k⟩
theorem TabXT.same {K : PySem.W.Frag} {H H' : Hp} {a : Addr} {n : Nat} {f : Nat → Nat → Nat} (h : TabXT K H a n f) (s : Same H H') : TabXT K H' a n f := by
  obtain ⟨rs, l, e, q⟩ := h
  exact ⟨rs, l, OQ.sqT_same e s, fun i r z => OQ.sqT_same (q i r z) s⟩
theorem TabXL.same {H H' : Hp} {a : Addr} {n : Nat} {f : Nat → Nat → Nat} (h : TabXL H a n f) (s : Same H H') : TabXL H' a n f := by
  obtain ⟨rs, l, e, q⟩ := h
  exact ⟨rs, l, s _ _ e, fun i r z => s _ _ (q i r z)⟩
theorem TabXL.kx {H H' : Hp} {x C dx a : Addr} {fs : List (Str × V)} {n : Nat} {f : Nat → Nat → Nat} (h : TabXL H a n f) (ex : H x = some (.ins C dx fs)) (k : Kx x H H') : TabXL H' a n f := by
  obtain ⟨rs, l, e, q⟩ := h
  exact ⟨rs, l, k _ _ (fun z => by subst z; rw [ex] at e; cases e) e, fun i r z => k _ _ (fun y => by subst y; have := q i _ z; rw [ex] at this; cases this) (q i r z)⟩
/-- the first i rows of a table stand in the list at D -/
def RowsN (H : Hp) (D : Addr) (n i : Nat) (f : Nat → Nat → Nat) : Prop := ∃ us : List Addr, us.length = i ∧ H D = some (.lst (us.map V.ref)) ∧ ∀ (j : Nat) (u : Addr), us[j]? = some u → u ≠ D ∧ H u = some (.lst ((List.range n).map fun c => V.int (f j c : Nat)))
theorem rowsN_zero {H : Hp} {D : Addr} {n : Nat} {f : Nat → Nat → Nat} : RowsN (upd H D (.lst [])) D n 0 f := ⟨[], rfl, upd_same, (fun _ _ e => nomatch e)⟩
theorem rowsN_step {H H' H'' : Hp} {D D2 : Addr} {n i : Nat} {f : Nat → Nat → Nat} (hD : H D = none) (s1 : Same H H') (r : RowsN H' D n i f) (hD2 : H' D2 = none) (s2 : Same H' H'') (hi : i ≤ 100) (e2 : H'' D2 = some (.lst ((List.range n).map fun c => V.int (f i c : Nat)))) :
    ∃ acc, H'' D = some (.lst acc) ∧ acc.length < sizeLine ∧ Same H (upd H'' D (.lst (acc ++ [V.ref D2]))) ∧ RowsN (upd H'' D (.lst (acc ++ [V.ref D2]))) D n (i + 1) f := by
  obtain ⟨us, lu, eD, all⟩ := r
  have nD : D2 ≠ D := fun z => by rw [z, eD] at hD2; cases hD2
  refine ⟨_, s2 _ _ eD, by rw [List.length_map, lu]; exact Nat.lt_of_le_of_lt hi (by decide), fun b u e => ?_, us ++ [D2], by rw [List.length_append, lu]; rfl, by rw [upd_same, List.map_append]; rfl, fun j u e => ?_⟩
  · rw [upd_ne (ne_of_none e hD)]; exact s2 _ _ (s1 _ _ e)
  · by_cases lj : j < us.length
    · rw [List.getElem?_append_left lj] at e
      obtain ⟨n1, r1⟩ := all j u e
      exact ⟨n1, by rw [upd_ne n1]; exact s2 _ _ r1⟩
    · have q : j = i := by
        have := (List.getElem?_eq_some_iff.mp e).1
        rw [List.length_append, lu] at this
        simp at this
        omega
      subst q
      rw [List.getElem?_append_right (by omega), lu, Nat.sub_self] at e
      cases e
      exact ⟨nD, by rw [upd_ne nD]; exact e2⟩
theorem rowsN_end {H : Hp} {D : Addr} {n : Nat} {f : Nat → Nat → Nat} (r : RowsN H D n n f) : TabXL H D n f := by
  obtain ⟨us, lu, eD, all⟩ := r
  exact ⟨us, lu, eD, fun j u e => (all j u e).2⟩
/-- one more item of a row -/
theorem rowPutN {H H' : Hp} {D : Addr} {j : Nat} {g : Nat → Nat} {v : V} (hD : H D = none) (s : Same H H') (hj : j ≤ 100) (eD : H' D = some (.lst ((List.range j).map fun c => V.int (g c : Nat)))) (ev : v = .int (g j : Nat)) :
    ∃ acc, H' D = some (.lst acc) ∧ acc.length < sizeLine ∧ Same H (upd H' D (.lst (acc ++ [v]))) ∧ upd H' D (.lst (acc ++ [v])) D = some (.lst ((List.range (j + 1)).map fun c => V.int (g c : Nat))) := by
  refine ⟨_, eD, by rw [List.length_map, List.length_range]; exact Nat.lt_of_le_of_lt hj (by decide), same_put s hD, ?_⟩
  rw [upd_same, List.range_succ, List.map_append, ev]; rfl
/-- a reckoning at x, whole -/
def RekF (K : PySem.W.Frag) (C : Addr) (H : Hp) (x : Addr) (n : Nat) (J M : Nat → Nat → Nat) (z o : Nat) : Prop := ∃ (dx jt pt mt lt rt : Addr), H x = some (.ins C dx [("joins", .ref jt), ("products", .ref pt), ("none", .int z), ("one", .int o), ("_meets", .ref mt), ("_lefts", .ref lt), ("_rights", .ref rt)]) ∧
  TabXT K H jt n J ∧ TabXT K H pt n M ∧ TabXL H mt n (meetF n J z) ∧ TabXL H lt n (leftF n J M z) ∧ TabXL H rt n (rightF n J M z) ∧ RK.restF n J M z o = none ∧ 2 ≤ n ∧ n ≤ 16 ∧ z < n ∧ o < n ∧ (∀ a b, a < n → b < n → J a b < n) ∧ (∀ a b, a < n → b < n → M a b < n)
theorem RekF.same {K : PySem.W.Frag} {C : Addr} {H H' : Hp} {x : Addr} {n : Nat} {J M : Nat → Nat → Nat} {z o : Nat} (h : RekF K C H x n J M z o) (s : Same H H') : RekF K C H' x n J M z o := by
  obtain ⟨dx, jt, pt, mt, lt, rt, e, t1, t2, t3, t4, t5, r⟩ := h
  exact ⟨dx, jt, pt, mt, lt, rt, s _ _ e, t1.same s, t2.same s, t3.same s, t4.same s, t5.same s, r⟩
theorem no12 {fs : List (Str × V)} (h : ∀ p ∈ fs, p.1 ∈ ([("joins" : Str), ("products" : Str), ("none" : Str), ("one" : Str), ("_meets" : Str), ("_lefts" : Str), ("_rights" : Str)] : List Str)) :
    ∀ m ∈ ([("_joined" : Str), ("_meet" : Str), ("_left" : Str), ("_right" : Str), ("is_worth" : Str), ("beneath" : Str), ("join" : Str), ("times" : Str), ("meet" : Str), ("greatest" : Str), ("left" : Str), ("right" : Str)] : List Str), fs.lookup m = none := by
  intro m hm
  have key : ∀ m ∈ ([("_joined" : Str), ("_meet" : Str), ("_left" : Str), ("_right" : Str), ("is_worth" : Str), ("beneath" : Str), ("join" : Str), ("times" : Str), ("meet" : Str), ("greatest" : Str), ("left" : Str), ("right" : Str)] : List Str), ∀ q ∈ ([("joins" : Str), ("products" : Str), ("none" : Str), ("one" : Str), ("_meets" : Str), ("_lefts" : Str), ("_rights" : Str)] : List Str), (m == q) = false := by decide +kernel
  induction fs with
  | nil => rfl
  | cons p fs ih =>
    obtain ⟨q, v⟩ := p
    rw [lk_ne (key m hm q (h _ (List.mem_cons_self ..)))]
    exact ih fun p hp => h p (List.mem_cons_of_mem _ hp)
theorem RekF.rek {K : PySem.W.Frag} {C : Addr} {H : Hp} {x : Addr} {n : Nat} {J M : Nat → Nat → Nat} {z o : Nat} (h : RekF K C H x n J M z o) : Rek K C H x n J M z := by
  obtain ⟨dx, jt, pt, mt, lt, rt, e, t1, t2, t3, t4, t5, rf, n2, n16, zn, on, wj, wp⟩ := h
  exact ⟨zn, n16, wj, wp, dx, jt, pt, _, e, lk_eq, t1.x, (lk_ne (by decide +kernel)).trans lk_eq, t2.x, (lk_ne (by decide +kernel)).trans ((lk_ne (by decide +kernel)).trans lk_eq), no12 (by simp)⟩
def spReck (K : PySem.W.Frag) (C CB : Addr) : Sp := fun vs H Q E => ∃ (x dx : Addr) (vj vp vz vn : V) (dj dp dz dn : PyData), vs = [.ref x, vj, vp, vz, vn] ∧ H x = some (.ins C dx []) ∧ OQ.Dqd K H vj dj ∧ OQ.Dqd K H vp dp ∧ OQ.Dqd K H vz dz ∧ OQ.Dqd K H vn dn ∧
  (firstF dj dp dz dn = none → ∀ H', Kx x H H' → RekF K C H' x (RK.cellsOf dj).length (RK.tabf dj) (RK.tabf dp) (RK.natOf dz) (RK.natOf dn) → Q .non H') ∧
  (∀ f, firstF dj dp dz dn = some f → ∀ v d H', Same H H' → FltAt H' v (some f) → H' d = none → E (.ref CB) (some d) (upd H' d (ErrD v)))
section
variable {P : Program} {w : World} {K : PySem.W.Frag} {mg : Str → Option Value} {base : Heap} {H : Hp} {R : V → Prop}
theorem ok_Reckoning__init (T : Top K mg) : FnOk P w K mg base (L2.CX P w) 12 T.f_Reckoning__init T.fd_Reckoning__init ["self", "joins", "products", "none", "one"] (spReck K T.C_Reckoning T.C_BadReckoning) := by
  refine T.F_Reckoning__init.okX sc_Reckoning__init (fun vs H Q E h => ?_) (fun cdv A outer s H vs Q E hr h => ?_)
  · obtain ⟨x, dx, vj, vp, vz, vn, dj, dp, dz, dn, rfl, _⟩ := h; rfl
  · obtain ⟨x, dx, vj, vp, vz, vn, dj, dp, dz, dn, rfl, ex, hj, hp, hz, hn, k, kE⟩ := h
    refine ⟨_, (C8.pss_cut (ps_set (i := 5) sc_Reckoning__init.nd rfl (Or.inl rfl) (pe_call (ok_first_fault T) (hr.mono (by decide)) (by rfl) T.g_first_fault T.F_first_fault.kp T.b_first_fault .nil pass0 (pa_cons (pv 1) (pa_cons (pv 2) (pa_cons (pv 3) (pa_cons (pv 4) pa_nil))))))
 (C8.pss_cut (ps_if (pt_cmpR RD.o_notN (pv 5) pe_non (nomark _))
 (pss_one (ps_raise rfl (takes_of rfl rfl rfl rfl) (pmk_oex T.oex_BadReckoning T.i_BadReckoning T.tI (ok_WayError__init T) (hr.mono (by decide)) T.b_WayError__init .nil pass0 (by rfl) T.g_BadReckoning (pa_cons (pv 5) pa_nil))))
 pss_nil)
 (C8.pss_cut (ps_fld (pv 0) (pe_callTy (OQ.tupK K) (by rfl) T.n_tuple (by decide +kernel) (pa_cons (pe_lc (own := [("row", 6)]) (g := (gName 6)) (tt := tYes) rfl sc_Reckoning__init.nd (OQ.pi_seq (pv 1)) (blkOk_by (own := [("row", 6)]) (N := ["self", "joins", "products", "none", "one", "fault", "row", "worths", "a", "b", "c"]) (sc := defScope s_Reckoning__init) (by decide +kernel)) (fun _ _ _ _ _ => (pg_name (i := 6) sc_Reckoning__init.nd rfl (Or.inl rfl))) (fun _ _ _ _ _ => pts_nil) (fun _ _ _ _ _ => (pe_callTy (OQ.tupK K) (by rfl) T.n_tuple (by decide +kernel) (pa_cons (pv 6) pa_nil)))) pa_nil)) rfl)
 (C8.pss_cut (ps_fld (pv 0) (pe_callTy (OQ.tupK K) (by rfl) T.n_tuple (by decide +kernel) (pa_cons (pe_lc (own := [("row", 6)]) (g := (gName 6)) (tt := tYes) rfl sc_Reckoning__init.nd (OQ.pi_seq (pv 2)) (blkOk_by (own := [("row", 6)]) (N := ["self", "joins", "products", "none", "one", "fault", "row", "worths", "a", "b", "c"]) (sc := defScope s_Reckoning__init) (by decide +kernel)) (fun _ _ _ _ _ => (pg_name (i := 6) sc_Reckoning__init.nd rfl (Or.inl rfl))) (fun _ _ _ _ _ => pts_nil) (fun _ _ _ _ _ => (pe_callTy (OQ.tupK K) (by rfl) T.n_tuple (by decide +kernel) (pa_cons (pv 6) pa_nil)))) pa_nil)) rfl)
 (C8.pss_cut (ps_fld (pv 0) (pv 3) rfl)
 (C8.pss_cut (ps_fld (pv 0) (pv 4) rfl)
 (C8.pss_cut (ps_set (i := 7) sc_Reckoning__init.nd rfl (Or.inr rfl) (pe_callTy OQ.cr_range1 (by rfl) T.n_range (by decide +kernel) (pa_cons (pe_callB RD.c_len (by rfl) T.n_len (by decide +kernel) (pa_cons (pv 1) pa_nil)) pa_nil)))
 (C8.pss_cut (ps_fld (pv 0) (pe_lc (own := [("a", 8)]) (g := (gName 8)) (tt := tYes) rfl sc_Reckoning__init.nd (OQ.pi_rngV (pv 7)) (blkOk_by (own := [("a", 8)]) (N := ["self", "joins", "products", "none", "one", "fault", "row", "worths", "a", "b", "c"]) (sc := defScope s_Reckoning__init) (by decide +kernel)) (fun _ _ _ _ _ => (pg_name (i := 8) sc_Reckoning__init.nd rfl (by first | exact Or.inl rfl | exact Or.inr rfl))) (fun _ _ _ _ _ => pts_nil) (fun _ _ _ _ _ => (pe_lc (own := [("b", 9)]) (g := (gName 9)) (tt := tYes) rfl sc_Reckoning__init.nd (OQ.pi_rngV (pv 7)) (blkOk_by (own := [("b", 9)]) (N := ["self", "joins", "products", "none", "one", "fault", "row", "worths", "a", "b", "c"]) (sc := _) (by kernel_rfl)) (fun _ _ _ _ _ => (pg_name (i := 9) sc_Reckoning__init.nd rfl (by first | exact Or.inl rfl | exact Or.inr rfl))) (fun _ _ _ _ _ => pts_nil) (fun _ _ _ _ _ => (pe_meth (pv 0) T.cl_Reckoning T.m_Reckoning_Umeet (ok_Reckoning_Umeet T) (hr.mono (by decide)) T.b_Reckoning_Umeet .nil pass0 (pa_cons (pv 8) (pa_cons (pv 9) pa_nil))))))) rfl)
 (C8.pss_cut (ps_fld (pv 0) (pe_lc (own := [("a", 8)]) (g := (gName 8)) (tt := tYes) rfl sc_Reckoning__init.nd (OQ.pi_rngV (pv 7)) (blkOk_by (own := [("a", 8)]) (N := ["self", "joins", "products", "none", "one", "fault", "row", "worths", "a", "b", "c"]) (sc := defScope s_Reckoning__init) (by decide +kernel)) (fun _ _ _ _ _ => (pg_name (i := 8) sc_Reckoning__init.nd rfl (by first | exact Or.inl rfl | exact Or.inr rfl))) (fun _ _ _ _ _ => pts_nil) (fun _ _ _ _ _ => (pe_lc (own := [("c", 10)]) (g := (gName 10)) (tt := tYes) rfl sc_Reckoning__init.nd (OQ.pi_rngV (pv 7)) (blkOk_by (own := [("c", 10)]) (N := ["self", "joins", "products", "none", "one", "fault", "row", "worths", "a", "b", "c"]) (sc := _) (by kernel_rfl)) (fun _ _ _ _ _ => (pg_name (i := 10) sc_Reckoning__init.nd rfl (by first | exact Or.inl rfl | exact Or.inr rfl))) (fun _ _ _ _ _ => pts_nil) (fun _ _ _ _ _ => (pe_meth (pv 0) T.cl_Reckoning T.m_Reckoning_Uleft (ok_Reckoning_Uleft T) (hr.mono (by decide)) T.b_Reckoning_Uleft .nil pass0 (pa_cons (pv 8) (pa_cons (pv 10) pa_nil))))))) rfl)
 (pss_one (ps_fld (pv 0) (pe_lc (own := [("c", 10)]) (g := (gName 10)) (tt := tYes) rfl sc_Reckoning__init.nd (OQ.pi_rngV (pv 7)) (blkOk_by (own := [("c", 10)]) (N := ["self", "joins", "products", "none", "one", "fault", "row", "worths", "a", "b", "c"]) (sc := defScope s_Reckoning__init) (by decide +kernel)) (fun _ _ _ _ _ => (pg_name (i := 10) sc_Reckoning__init.nd rfl (by first | exact Or.inl rfl | exact Or.inr rfl))) (fun _ _ _ _ _ => pts_nil) (fun _ _ _ _ _ => (pe_lc (own := [("a", 8)]) (g := (gName 8)) (tt := tYes) rfl sc_Reckoning__init.nd (OQ.pi_rngV (pv 7)) (blkOk_by (own := [("a", 8)]) (N := ["self", "joins", "products", "none", "one", "fault", "row", "worths", "a", "b", "c"]) (sc := _) (by kernel_rfl)) (fun _ _ _ _ _ => (pg_name (i := 8) sc_Reckoning__init.nd rfl (by first | exact Or.inl rfl | exact Or.inr rfl))) (fun _ _ _ _ _ => pts_nil) (fun _ _ _ _ _ => (pe_meth (pv 0) T.cl_Reckoning T.m_Reckoning_Uright (ok_Reckoning_Uright T) (hr.mono (by decide)) T.b_Reckoning_Uright .nil pass0 (pa_cons (pv 10) (pa_cons (pv 8) pa_nil))))))) rfl))))))))))), ?_⟩
    refine RD.d_cut (fun σ' H' => ∃ v, σ' = [some (.ref x), some vj, some vp, some vz, some vn, some v, none, none, none, none, none] ∧ Same H H' ∧ FltAt H' v (firstF dj dp dz dn)) ?_ ?_
    · walk_at "tx"
      refine ⟨_, ⟨vj, vp, vz, vn, dj, dp, dz, dn, rfl, hj, hp, hz, hn, rfl⟩, fun v H1 s1 f1 => ?_⟩
      walk_at "tx"
      exact ⟨v, rfl, s1, f1⟩
    rintro σ' H1 ⟨v, rfl, s1, f1⟩
    cases eF : firstF dj dp dz dn with
    | some f =>
      rw [eF] at f1
      refine RD.d_cut (fun _ _ => False) ?_ (fun _ _ z => z.elim)
      walk_at "tx"
      obtain ⟨w, a, b, c⟩ := f
      obtain ⟨p, rfl, hp'⟩ := id f1
      rw [decide_eq_false (by simp)]
      walk_at "tx"
      exact d_mkO T.oex_BadReckoning T.v_BadReckoning fun d hd => kE _ eF _ d H1 s1 f1 hd
    | none =>
      rw [eF] at f1
      cases f1
      refine RD.d_cut (fun σ' H' => σ' = [some (.ref x), some vj, some vp, some vz, some vn, some .non, none, none, none, none, none] ∧ H' = H1) ?_ ?_
      · walk_at "tx"
        rw [decide_eq_true rfl]
        walk_at "tx"
        exact ⟨rfl, rfl⟩
      rintro σ' H2 ⟨rfl, rfl⟩
      replace k := k eF
      have eS : RK.sizeB dj dp dz dn = true := by
        cases e : RK.sizeB dj dp dz dn with
        | true => rfl
        | false =>
          have : firstF dj dp dz dn = some (("size" : Str), -1, -1, -1) := by
            unfold firstF sizF
            rw [if_neg (by rw [e]; decide)]; rfl
          rw [eF] at this; cases this
      have eR : RK.restF (RK.cellsOf dj).length (RK.tabf dj) (RK.tabf dp) (RK.natOf dz) (RK.natOf dn) = none := by
        unfold firstF sizF at eF
        rw [if_pos eS] at eF
        exact eF
      obtain ⟨n2, n16, qj, qp, qz, qn⟩ := size_ok eS
      replace hj := OQ.Dqd.same s1 hj
      replace hp := OQ.Dqd.same s1 hp
      generalize (RK.cellsOf dj).length = n at *
      obtain ⟨a, rfl, tj, wj⟩ := OQ.dqd_tab hj qj
      obtain ⟨b, rfl, tp, wp⟩ := OQ.dqd_tab hp qp
      obtain ⟨rfl, zn⟩ := below_nat hz qz
      obtain ⟨rfl, on⟩ := below_nat hn qn
      clear hj hp hz hn qj qp qz qn eS kE eF
      generalize RK.tabf dj = J at *
      generalize RK.tabf dp = M at *
      generalize RK.natOf dz = z at *
      generalize RK.natOf dn = o at *
      replace ex := s1 _ _ ex
      have kx1 : Kx x H H2 := Same.kx s1
      clear s1
      refine RD.d_cut (fun σ' H' => ∃ q, σ' = [some (.ref x), some (.ref a), some (.ref b), some (.int z), some (.int o), some .non, none, none, none, none, none] ∧ H' x = some (.ins T.C_Reckoning dx [("joins", .ref q)]) ∧ Kx x H2 H' ∧ TabXT K H' q n J) ?_ ?_
      · obtain ⟨rs, len, sa, rows⟩ := id tj
        walk_at "tx"
        refine OQ.d_seqVar rfl sa (fun W G hw hG => fun D hD => ?_)
        rw [List.length_map, len] at hw
        refine lc_it hw (fun i H' => Same H2 H' ∧ ∃ us : List Addr, us.length = i ∧ H' D = some (.lst (us.map V.ref)) ∧ ∀ (j : Nat) (u : Addr), us[j]? = some u → SqT K H' u ((List.range n).map fun c => V.int (J j c : Nat))) ⟨same_upd hD, [], rfl, upd_same, (fun j u e => nomatch e)⟩ (fun i H' _ q => hG _ q.1) ?_ ?_
        · rintro i y H' H'' il ⟨s1, us, lu, eD, all⟩ ⟨rfl, e2⟩
          have ir : i < rs.length := by rw [len]; exact il
          rw [List.getElem?_map, List.getElem?_eq_getElem ir] at e2
          cases e2
          walk_at "tx"
          refine OQ.d_tupSeq (OQ.SeqAt.same (rows i _ (List.getElem?_eq_getElem ir)) s1) (fun H3 t s3 sq => ?_)
          have eD3 := s3 _ _ eD
          refine ⟨_, eD3, by rw [List.length_map, lu]; exact Nat.lt_of_lt_of_le il (Nat.le_trans n16 (by decide)), same_put (s1.trans s3) hD, us ++ [t], by rw [List.length_append, lu]; rfl, by rw [upd_same, List.map_append]; rfl, fun j u e => ?_⟩
          by_cases lj : j < us.length
          · rw [List.getElem?_append_left lj] at e
            exact sqT_lst (OQ.sqT_same (all j u e) s3) eD3
          · have q : j = i := by
              have := (List.getElem?_eq_some_iff.mp e).1
              rw [List.length_append, lu] at this
              simp at this
              omega
            subst q
            rw [List.getElem?_append_right (by omega), lu, Nat.sub_self] at e
            cases e
            exact sqT_lst sq eD3
        · rintro H' ⟨s1, us, lu, eD, all⟩
          walk_at "tx"
          refine OQ.d_tupSeq (.inl (SqL.of eD)) (fun H3 q s3 sq => ?_)
          have s13 := s1.trans s3
          have ex3 := s13 _ _ ex
          walk_at "tx"
          refine ⟨x, T.C_Reckoning, dx, _, rfl, ex3, T.cl_Reckoning, T.na_Reckoning_joins, by show 0 < 1000; decide, ?_⟩
          refine ⟨q, rfl, ?_, Kx.trans (Same.kx s13) kx_upd, TabXT.kx ⟨us, lu, sq, fun j u e => OQ.sqT_same (all j u e) s3⟩ ex3 kx_upd⟩
          rw [upd_same]; rfl
      rintro σ' H3 ⟨jt, rfl, ex3, kx3, tjt⟩
      replace tj := TabX.kx tj ex kx3
      replace tp := TabX.kx tp ex kx3
      replace kx1 := kx1.trans kx3
      replace ex := ex3
      clear ex3 kx3
      refine RD.d_cut (fun σ' H' => ∃ q, σ' = [some (.ref x), some (.ref a), some (.ref b), some (.int z), some (.int o), some .non, none, none, none, none, none] ∧ H' x = some (.ins T.C_Reckoning dx [("joins", .ref jt), ("products", .ref q)]) ∧ Kx x H3 H' ∧ TabXT K H' q n M) ?_ ?_
      · obtain ⟨rs, len, sa, rows⟩ := id tp
        walk_at "tx"
        refine OQ.d_seqVar rfl sa (fun W G hw hG => fun D hD => ?_)
        rw [List.length_map, len] at hw
        refine lc_it hw (fun i H' => Same H3 H' ∧ ∃ us : List Addr, us.length = i ∧ H' D = some (.lst (us.map V.ref)) ∧ ∀ (j : Nat) (u : Addr), us[j]? = some u → SqT K H' u ((List.range n).map fun c => V.int (M j c : Nat))) ⟨same_upd hD, [], rfl, upd_same, (fun j u e => nomatch e)⟩ (fun i H' _ q => hG _ q.1) ?_ ?_
        · rintro i y H' H'' il ⟨s1, us, lu, eD, all⟩ ⟨rfl, e2⟩
          have ir : i < rs.length := by rw [len]; exact il
          rw [List.getElem?_map, List.getElem?_eq_getElem ir] at e2
          cases e2
          walk_at "tx"
          refine OQ.d_tupSeq (OQ.SeqAt.same (rows i _ (List.getElem?_eq_getElem ir)) s1) (fun H3 t s3 sq => ?_)
          have eD3 := s3 _ _ eD
          refine ⟨_, eD3, by rw [List.length_map, lu]; exact Nat.lt_of_lt_of_le il (Nat.le_trans n16 (by decide)), same_put (s1.trans s3) hD, us ++ [t], by rw [List.length_append, lu]; rfl, by rw [upd_same, List.map_append]; rfl, fun j u e => ?_⟩
          by_cases lj : j < us.length
          · rw [List.getElem?_append_left lj] at e
            exact sqT_lst (OQ.sqT_same (all j u e) s3) eD3
          · have q : j = i := by
              have := (List.getElem?_eq_some_iff.mp e).1
              rw [List.length_append, lu] at this
              simp at this
              omega
            subst q
            rw [List.getElem?_append_right (by omega), lu, Nat.sub_self] at e
            cases e
            exact sqT_lst sq eD3
        · rintro H' ⟨s1, us, lu, eD, all⟩
          walk_at "tx"
          refine OQ.d_tupSeq (.inl (SqL.of eD)) (fun H3 q s3 sq => ?_)
          have s13 := s1.trans s3
          have ex3 := s13 _ _ ex
          walk_at "tx"
          refine ⟨x, T.C_Reckoning, dx, _, rfl, ex3, T.cl_Reckoning, T.na_Reckoning_products, by show 1 < 1000; decide, ?_⟩
          refine ⟨q, rfl, ?_, Kx.trans (Same.kx s13) kx_upd, TabXT.kx ⟨us, lu, sq, fun j u e => OQ.sqT_same (all j u e) s3⟩ ex3 kx_upd⟩
          rw [upd_same, putF_ne (by decide +kernel)]; rfl
      rintro σ' H4 ⟨pt, rfl, ex4, kx4, tpt⟩
      replace tjt := tjt.kx ex kx4
      replace tj := TabX.kx tj ex kx4
      replace kx1 := kx1.trans kx4
      replace ex := ex4
      clear ex4 kx4 tp
      refine RD.d_cut (fun σ' H' => σ' = [some (.ref x), some (.ref a), some (.ref b), some (.int z), some (.int o), some .non, none, none, none, none, none] ∧ H' x = some (.ins T.C_Reckoning dx [("joins", .ref jt), ("products", .ref pt), ("none", .int z)]) ∧ Kx x H4 H') ?_ ?_
      · walk_at "tx"
        refine ⟨x, T.C_Reckoning, dx, _, rfl, ex, T.cl_Reckoning, T.na_Reckoning_none, by show 2 < 1000; decide, rfl, ?_, kx_upd⟩
        rw [upd_same, putF_ne (by decide +kernel), putF_ne (by decide +kernel)]; rfl
      rintro σ' H5 ⟨rfl, ex5, kx5⟩
      replace tjt := tjt.kx ex kx5
      replace tpt := tpt.kx ex kx5
      replace tj := TabX.kx tj ex kx5
      replace kx1 := kx1.trans kx5
      replace ex := ex5
      clear ex5 kx5
      refine RD.d_cut (fun σ' H' => σ' = [some (.ref x), some (.ref a), some (.ref b), some (.int z), some (.int o), some .non, none, none, none, none, none] ∧ H' x = some (.ins T.C_Reckoning dx [("joins", .ref jt), ("products", .ref pt), ("none", .int z), ("one", .int o)]) ∧ Kx x H5 H') ?_ ?_
      · walk_at "tx"
        refine ⟨x, T.C_Reckoning, dx, _, rfl, ex, T.cl_Reckoning, T.na_Reckoning_one, by show 3 < 1000; decide, rfl, ?_, kx_upd⟩
        rw [upd_same, putF_ne (by decide +kernel), putF_ne (by decide +kernel), putF_ne (by decide +kernel)]; rfl
      rintro σ' H6 ⟨rfl, ex6, kx6⟩
      replace tjt := tjt.kx ex kx6
      replace tpt := tpt.kx ex kx6
      replace tj := TabX.kx tj ex kx6
      replace kx1 := kx1.trans kx6
      replace ex := ex6
      clear ex6 kx6
      refine RD.d_cut (fun σ' H' => ∃ rg, σ' = [some (.ref x), some (.ref a), some (.ref b), some (.int z), some (.int o), some .non, none, some (.ref rg), none, none, none] ∧ Same H6 H' ∧ H' rg = some (.rng 0 n)) ?_ ?_
      · walk_at "tx"
        refine tj.len ?_
        refine ⟨n, rfl, fun rg hg => ?_⟩
        walk_at "tx"
        exact ⟨rg, rfl, same_upd hg, upd_same⟩
      rintro σ' H7 ⟨rg, rfl, s7, eg⟩
      replace tjt := tjt.same s7
      replace tpt := tpt.same s7
      replace kx1 := kx1.trans (Same.kx s7)
      replace ex := s7 _ _ ex
      clear tj s7
      have re : Rek K T.C_Reckoning H7 x n J M z := ⟨zn, n16, wj, wp, dx, jt, pt, _, ex, lk_eq, tjt.x, (lk_ne (by decide +kernel)).trans lk_eq, tpt.x, (lk_ne (by decide +kernel)).trans ((lk_ne (by decide +kernel)).trans lk_eq), no12 (by simp)⟩
      refine RD.d_cut (fun σ' H' => ∃ q v8 v9 v10, σ' = [some (.ref x), some (.ref a), some (.ref b), some (.int z), some (.int o), some .non, none, some (.ref rg), v8, v9, v10] ∧ H' x = some (.ins T.C_Reckoning dx [("joins", .ref jt), ("products", .ref pt), ("none", .int z), ("one", .int o), ("_meets", .ref q)]) ∧ Kx x H7 H' ∧ TabXL H' q n (meetF n J z)) ?_ ?_
      · walk_at "tx"
        refine ⟨rg, 0, n, rfl, eg, by omega, ?_⟩
        intro D hD
        refine lc_range (lo := 0) (n := ((n : Int) - 0).toNat) (fun i H' => Same H7 H' ∧ RowsN H' D n i (meetF n J z)) ⟨same_upd hD, rowsN_zero⟩ ?_ ?_
        · rintro i H' hi' ⟨s1, r1⟩
          have hi : i < n := by omega
          walk_at "tx"
          refine ⟨rg, 0, n, rfl, s1 _ _ eg, by omega, ?_⟩
          intro D2 hD2
          refine lc_range (lo := 0) (n := ((n : Int) - 0).toNat) (fun j H'' => Same H' H'' ∧ H'' D2 = some (.lst ((List.range j).map fun c => V.int (meetF n J z i c : Nat)))) ⟨same_upd hD2, upd_same⟩ ?_ ?_
          · rintro j H'' hj' ⟨s2, eD2⟩
            have hj : j < n := by omega
            have re2 := (re.same s1).same s2
            walk_at "tx"
            refine rekM re2 (by simp) ?_
            walk_at "tx"
            refine ⟨x, n, J, M, z, i, j, by rw [Int.zero_add, Int.zero_add]; rfl, re2, hi, hj, fun H3 s3 => ?_⟩
            exact rowPutN (g := fun c => meetF n J z i c) hD2 (s2.trans s3) (by omega) (s3 _ _ eD2) rfl
          · rintro H'' ⟨s2, eD2⟩
            rw [show ((n : Int) - 0).toNat = n from by omega] at eD2
            exact rowsN_step hD s1 r1 hD2 s2 (by omega) eD2
        · rintro H' ⟨s1, r1⟩
          rw [show ((n : Int) - 0).toNat = n from by omega] at r1
          have tt := rowsN_end r1
          walk_at "tx"
          have ex1 := s1 _ _ ex
          refine ⟨x, T.C_Reckoning, dx, _, rfl, ex1, T.cl_Reckoning, T.na_Reckoning__meets, by show 4 < 1000; decide, ?_⟩
          refine ⟨D, _, _, _, rfl, ?_, Kx.trans (Same.kx s1) kx_upd, tt.kx ex1 kx_upd⟩
          rw [upd_same, putF_ne (by decide +kernel), putF_ne (by decide +kernel), putF_ne (by decide +kernel), putF_ne (by decide +kernel)]; rfl
      rintro σ' H8 ⟨mt, v8, v9, v10, rfl, exn, kxn, tmt⟩
      clear re
      have egn : H8 rg = some (.rng 0 n) := kxn _ _ (fun zz => by rw [zz, ex] at eg; cases eg) eg
      replace tjt := tjt.kx ex kxn
      replace tpt := tpt.kx ex kxn
      replace kx1 := kx1.trans kxn
      replace ex := exn
      replace eg := egn
      clear exn kxn egn
      have re : Rek K T.C_Reckoning H8 x n J M z := ⟨zn, n16, wj, wp, dx, jt, pt, _, ex, lk_eq, tjt.x, (lk_ne (by decide +kernel)).trans lk_eq, tpt.x, (lk_ne (by decide +kernel)).trans ((lk_ne (by decide +kernel)).trans lk_eq), no12 (by simp)⟩
      refine RD.d_cut (fun σ' H' => ∃ q v8 v9 v10, σ' = [some (.ref x), some (.ref a), some (.ref b), some (.int z), some (.int o), some .non, none, some (.ref rg), v8, v9, v10] ∧ H' x = some (.ins T.C_Reckoning dx [("joins", .ref jt), ("products", .ref pt), ("none", .int z), ("one", .int o), ("_meets", .ref mt), ("_lefts", .ref q)]) ∧ Kx x H8 H' ∧ TabXL H' q n (leftF n J M z)) ?_ ?_
      · walk_at "tx"
        refine ⟨rg, 0, n, rfl, eg, by omega, ?_⟩
        intro D hD
        refine lc_range (lo := 0) (n := ((n : Int) - 0).toNat) (fun i H' => Same H8 H' ∧ RowsN H' D n i (leftF n J M z)) ⟨same_upd hD, rowsN_zero⟩ ?_ ?_
        · rintro i H' hi' ⟨s1, r1⟩
          have hi : i < n := by omega
          walk_at "tx"
          refine ⟨rg, 0, n, rfl, s1 _ _ eg, by omega, ?_⟩
          intro D2 hD2
          refine lc_range (lo := 0) (n := ((n : Int) - 0).toNat) (fun j H'' => Same H' H'' ∧ H'' D2 = some (.lst ((List.range j).map fun c => V.int (leftF n J M z i c : Nat)))) ⟨same_upd hD2, upd_same⟩ ?_ ?_
          · rintro j H'' hj' ⟨s2, eD2⟩
            have hj : j < n := by omega
            have re2 := (re.same s1).same s2
            walk_at "tx"
            refine rekM re2 (by simp) ?_
            walk_at "tx"
            refine ⟨x, n, J, M, z, i, j, by rw [Int.zero_add, Int.zero_add]; rfl, re2, hi, hj, fun H3 s3 => ?_⟩
            exact rowPutN (g := fun c => leftF n J M z i c) hD2 (s2.trans s3) (by omega) (s3 _ _ eD2) rfl
          · rintro H'' ⟨s2, eD2⟩
            rw [show ((n : Int) - 0).toNat = n from by omega] at eD2
            exact rowsN_step hD s1 r1 hD2 s2 (by omega) eD2
        · rintro H' ⟨s1, r1⟩
          rw [show ((n : Int) - 0).toNat = n from by omega] at r1
          have tt := rowsN_end r1
          walk_at "tx"
          have ex1 := s1 _ _ ex
          refine ⟨x, T.C_Reckoning, dx, _, rfl, ex1, T.cl_Reckoning, T.na_Reckoning__lefts, by show 5 < 1000; decide, ?_⟩
          refine ⟨D, _, _, _, rfl, ?_, Kx.trans (Same.kx s1) kx_upd, tt.kx ex1 kx_upd⟩
          rw [upd_same, putF_ne (by decide +kernel), putF_ne (by decide +kernel), putF_ne (by decide +kernel), putF_ne (by decide +kernel), putF_ne (by decide +kernel)]; rfl
      rintro σ' H9 ⟨lt, v8, v9, v10, rfl, exn, kxn, tlt⟩
      clear re
      have egn : H9 rg = some (.rng 0 n) := kxn _ _ (fun zz => by rw [zz, ex] at eg; cases eg) eg
      replace tjt := tjt.kx ex kxn
      replace tpt := tpt.kx ex kxn
      replace tmt := tmt.kx ex kxn
      replace kx1 := kx1.trans kxn
      replace ex := exn
      replace eg := egn
      clear exn kxn egn
      have re : Rek K T.C_Reckoning H9 x n J M z := ⟨zn, n16, wj, wp, dx, jt, pt, _, ex, lk_eq, tjt.x, (lk_ne (by decide +kernel)).trans lk_eq, tpt.x, (lk_ne (by decide +kernel)).trans ((lk_ne (by decide +kernel)).trans lk_eq), no12 (by simp)⟩
      walk_at "tx"
      refine ⟨rg, 0, n, rfl, eg, by omega, ?_⟩
      intro D hD
      refine lc_range (lo := 0) (n := ((n : Int) - 0).toNat) (fun i H' => Same H9 H' ∧ RowsN H' D n i (rightF n J M z)) ⟨same_upd hD, rowsN_zero⟩ ?_ ?_
      · rintro i H' hi' ⟨s1, r1⟩
        have hi : i < n := by omega
        walk_at "tx"
        refine ⟨rg, 0, n, rfl, s1 _ _ eg, by omega, ?_⟩
        intro D2 hD2
        refine lc_range (lo := 0) (n := ((n : Int) - 0).toNat) (fun j H'' => Same H' H'' ∧ H'' D2 = some (.lst ((List.range j).map fun c => V.int (rightF n J M z i c : Nat)))) ⟨same_upd hD2, upd_same⟩ ?_ ?_
        · rintro j H'' hj' ⟨s2, eD2⟩
          have hj : j < n := by omega
          have re2 := (re.same s1).same s2
          walk_at "tx"
          refine rekM re2 (by simp) ?_
          walk_at "tx"
          refine ⟨x, n, J, M, z, i, j, by rw [Int.zero_add, Int.zero_add]; rfl, re2, hi, hj, fun H3 s3 => ?_⟩
          exact rowPutN (g := fun c => rightF n J M z i c) hD2 (s2.trans s3) (by omega) (s3 _ _ eD2) rfl
        · rintro H'' ⟨s2, eD2⟩
          rw [show ((n : Int) - 0).toNat = n from by omega] at eD2
          exact rowsN_step hD s1 r1 hD2 s2 (by omega) eD2
      · rintro H' ⟨s1, r1⟩
        rw [show ((n : Int) - 0).toNat = n from by omega] at r1
        have tt := rowsN_end r1
        walk_at "tx"
        have ex1 := s1 _ _ ex
        refine ⟨x, T.C_Reckoning, dx, _, rfl, ex1, T.cl_Reckoning, T.na_Reckoning__rights, by show 6 < 1000; decide, ?_⟩
        refine k _ ((kx1.trans (Same.kx s1)).trans kx_upd) ⟨dx, jt, pt, mt, lt, D, ?_, (tjt.same s1).kx ex1 kx_upd, (tpt.same s1).kx ex1 kx_upd, (tmt.same s1).kx ex1 kx_upd, (tlt.same s1).kx ex1 kx_upd, tt.kx ex1 kx_upd, eR, n2, n16, zn, on, wj, wp⟩
        rw [upd_same, putF_ne (by decide +kernel), putF_ne (by decide +kernel), putF_ne (by decide +kernel), putF_ne (by decide +kernel), putF_ne (by decide +kernel), putF_ne (by decide +kernel)]; rfl
end

/-! ### a reckoning made of tables, told by what they are below n -/
open OQ (TabX RowX SeqAt)
open RK (Fl FltAt)
/-- the same below n -/
def Eqn (n : Nat) (f g : Nat → Nat → Nat) : Prop := ∀ i j, i < n → j < n → f i j = g i j
theorem restF_congr {n : Nat} {J J' M M' : Nat → Nat → Nat} {z o : Nat} (ej : Eqn n J J') (em : Eqn n M M') (zn : z < n) (on : o < n) (wj : ∀ a b, a < n → b < n → J a b < n) (wm : ∀ a b, a < n → b < n → M a b < n) : RK.restF n J M z o = RK.restF n J' M' z o := by
  have h1 : RK.noneF n J M z = RK.noneF n J' M' z := RK.fnd_congr fun a ha => by rw [ej z a zn ha, ej a z ha zn, em z a zn ha, em a z ha zn]
  have h2 : RK.oneF n M o = RK.oneF n M' o := RK.fnd_congr fun a ha => by rw [em o a on ha, em a o ha on]
  have h3 : RK.idleF n J = RK.idleF n J' := RK.fnd_congr fun a ha => by rw [ej a a ha ha]
  have h4 : RK.swapF n J = RK.swapF n J' := RK.fnd_congr fun a ha => RK.fnd_congr fun b hb => by rw [ej a b ha hb, ej b a hb ha]
  have g : ∀ (w : Str) {F G : Nat → Nat → Nat}, Eqn n F G → (∀ a b, a < n → b < n → F a b < n) → RK.groupF w n F = RK.groupF w n G := fun w F G e wF =>
    RK.fnd_congr fun a ha => RK.fnd_congr fun b hb => RK.fnd_congr fun c hc => by
      have w1 := wF a b ha hb
      have w2 := wF b c hb hc
      rw [e (F a b) c w1 hc, e a (F b c) ha w2, e a b ha hb, e b c hb hc]
  have h5 : RK.overF n J M = RK.overF n J' M' := RK.fnd_congr fun a ha => RK.fnd_congr fun b hb => RK.fnd_congr fun c hc => by
    have w1 := wj b c hb hc
    rw [em a (J b c) ha w1, em (J b c) a w1 ha, ej (M a b) (M a c) (wm a b ha hb) (wm a c ha hc), ej (M b a) (M c a) (wm b a hb ha) (wm c a hc ha), ej b c hb hc, em a b ha hb, em a c ha hc, em b a hb ha, em c a hc ha]
  unfold RK.restF
  rw [h1, h2, h3, h4, h5, g _ ej wj, g _ em wm]
theorem jall_congr {n : Nat} {J J' : Nat → Nat → Nat} (e : Eqn n J J') (wj : ∀ a b, a < n → b < n → J a b < n) : ∀ {ws : List Nat} {z : Nat}, z < n → (∀ w ∈ ws, w < n) → jall J z ws = jall J' z ws
  | [], _, _, _ => rfl
  | w :: ws, z, zn, h => by
    have hw := h w (List.mem_cons_self ..)
    show jall J (J z w) ws = jall J' (J' z w) ws
    rw [← e z w zn hw]
    exact jall_congr e wj (wj z w zn hw) fun q m => h q (List.mem_cons_of_mem _ m)
theorem filt_congr {n : Nat} {p q : Nat → Bool} (h : ∀ i, i < n → p i = q i) : (List.range n).filter p = (List.range n).filter q :=
  List.filter_congr fun i m => h i (List.mem_range.mp m)
theorem meetF_congr {n : Nat} {J J' : Nat → Nat → Nat} {z : Nat} (e : Eqn n J J') (zn : z < n) (wj : ∀ a b, a < n → b < n → J a b < n) : Eqn n (meetF n J z) (meetF n J' z) := fun a b ha hb => by
  unfold meetF
  have h1 : ((List.range n).filter fun w => decide (J w a = a)) = (List.range n).filter fun w => decide (J' w a = a) := filt_congr fun i hi => by rw [e i a hi ha]
  have h2 : (((List.range n).filter fun w => decide (J' w a = a)).filter fun w => decide (J w b = b)) = ((List.range n).filter fun w => decide (J' w a = a)).filter fun w => decide (J' w b = b) :=
    List.filter_congr fun i m => by rw [e i b (List.mem_range.mp (List.mem_filter.mp m).1) hb]
  rw [h1, h2]
  exact jall_congr e wj zn fun w m => List.mem_range.mp (List.mem_filter.mp (List.mem_filter.mp m).1).1
theorem leftF_congr {n : Nat} {J J' M M' : Nat → Nat → Nat} {z : Nat} (e : Eqn n J J') (em : Eqn n M M') (zn : z < n) (wj : ∀ a b, a < n → b < n → J a b < n) (wm : ∀ a b, a < n → b < n → M a b < n) : Eqn n (leftF n J M z) (leftF n J' M' z) := fun a c ha hc => by
  unfold leftF
  have h1 : ((List.range n).filter fun b => decide (J (M a b) c = c)) = (List.range n).filter fun b => decide (J' (M' a b) c = c) := filt_congr fun i hi => by rw [e (M a i) c (wm a i ha hi) hc, em a i ha hi]
  rw [h1]
  exact jall_congr e wj zn fun w m => List.mem_range.mp (List.mem_filter.mp m).1
theorem rightF_congr {n : Nat} {J J' M M' : Nat → Nat → Nat} {z : Nat} (e : Eqn n J J') (em : Eqn n M M') (zn : z < n) (wj : ∀ a b, a < n → b < n → J a b < n) (wm : ∀ a b, a < n → b < n → M a b < n) : Eqn n (rightF n J M z) (rightF n J' M' z) := fun c a hc ha => by
  unfold rightF
  have h1 : ((List.range n).filter fun b => decide (J (M b a) c = c)) = (List.range n).filter fun b => decide (J' (M' b a) c = c) := filt_congr fun i hi => by rw [e (M i a) c (wm i a hi ha) hc, em i a hi ha]
  rw [h1]
  exact jall_congr e wj zn fun w m => List.mem_range.mp (List.mem_filter.mp m).1
theorem row_congr {n : Nat} {g h : Nat → Nat} (e : ∀ j, j < n → g j = h j) : ((List.range n).map fun j => V.int (g j : Nat)) = (List.range n).map fun j => V.int (h j : Nat) :=
  List.map_congr_left fun j m => by rw [e j (List.mem_range.mp m)]
theorem TabXT.congr {K : PySem.W.Frag} {H : Hp} {a : Addr} {n : Nat} {f g : Nat → Nat → Nat} (h : TabXT K H a n f) (e : Eqn n f g) : TabXT K H a n g := by
  obtain ⟨rs, l, sa, q⟩ := h
  refine ⟨rs, l, sa, fun i r z => ?_⟩
  have il : i < n := by have := (List.getElem?_eq_some_iff.mp z).1; omega
  rw [← row_congr fun j hj => e i j il hj]
  exact q i r z
theorem TabXL.congr {H : Hp} {a : Addr} {n : Nat} {f g : Nat → Nat → Nat} (h : TabXL H a n f) (e : Eqn n f g) : TabXL H a n g := by
  obtain ⟨rs, l, sa, q⟩ := h
  refine ⟨rs, l, sa, fun i r z => ?_⟩
  have il : i < n := by have := (List.getElem?_eq_some_iff.mp z).1; omega
  rw [← row_congr fun j hj => e i j il hj]
  exact q i r z
theorem RekF.congr {K : PySem.W.Frag} {C : Addr} {H : Hp} {x : Addr} {n : Nat} {J J' M M' : Nat → Nat → Nat} {z o : Nat} (h : RekF K C H x n J M z o) (ej : Eqn n J J') (em : Eqn n M M') : RekF K C H x n J' M' z o := by
  obtain ⟨dx, jt, pt, mt, lt, rt, e, t1, t2, t3, t4, t5, rf, n2, n16, zn, on, wj, wp⟩ := h
  exact ⟨dx, jt, pt, mt, lt, rt, e, t1.congr ej, t2.congr em, t3.congr (meetF_congr ej zn wj), t4.congr (leftF_congr ej em zn wj wp), t5.congr (rightF_congr ej em zn wj wp),
    (restF_congr ej em zn on wj wp).symm.trans rf, n2, n16, zn, on, fun a b ha hb => by rw [← ej a b ha hb]; exact wj a b ha hb, fun a b ha hb => by rw [← em a b ha hb]; exact wp a b ha hb⟩
theorem spReck_good {K : PySem.W.Frag} {C CB : Addr} {H : Hp} {x dx a b : Addr} {n : Nat} {J M : Nat → Nat → Nat} {z o : Nat} {Q : VK} {E : XK} (ex : H x = some (.ins C dx [])) (tj : TabX K H a n J) (tp : TabX K H b n M) (n2 : 2 ≤ n) (n16 : n ≤ 16) (zn : z < n) (on : o < n)
    (wj : ∀ a b, a < n → b < n → J a b < n) (wp : ∀ a b, a < n → b < n → M a b < n) (k : RK.restF n J M z o = none → ∀ H', Kx x H H' → RekF K C H' x n J M z o → Q .non H')
    (kE : ∀ f, RK.restF n J M z o = some f → ∀ v d H', Same H H' → FltAt H' v (some f) → H' d = none → E (.ref CB) (some d) (upd H' d (ErrD v))) : spReck K C CB [.ref x, .ref a, .ref b, .int z, .int o] H Q E := by
  obtain ⟨dj, hj, qj, ej, ds, er, el⟩ := OQ.tab_dp tj wj
  obtain ⟨dp, hp, qp, ep, _⟩ := OQ.tab_dp tp wp
  have ec : RK.cellsOf dj = ds := by unfold RK.cellsOf; rw [er]; rfl
  have ez : ∀ i : Nat, RK.natOf (.int i) = i := fun i => by show (i : Int).toNat = i; omega
  have bz : ∀ i : Nat, i < n → RK.belowB n (.int i) = true := fun i hi => decide_eq_true (by omega)
  have eS : RK.sizeB dj dp (.int z) (.int o) = true := by
    unfold RK.sizeB
    rw [er]
    show (decide (2 ≤ ds.length ∧ ds.length ≤ 16) && (RK.squareB ds.length dj && (RK.squareB ds.length dp && (RK.belowB ds.length (.int z) && RK.belowB ds.length (.int o))))) = true
    rw [el, qj, qp, bz z zn, bz o on, decide_eq_true ⟨n2, n16⟩]; rfl
  have eF : firstF dj dp (.int z) (.int o) = RK.restF n J M z o := by
    unfold firstF sizF
    rw [if_pos eS, ec, el, ez, ez]
    exact restF_congr ej ep zn on (fun a b ha hb => by rw [ej a b ha hb]; exact wj a b ha hb) (fun a b ha hb => by rw [ep a b ha hb]; exact wp a b ha hb)
  refine ⟨x, dx, _, _, _, _, dj, dp, .int z, .int o, rfl, ex, OQ.dqd_of hj, OQ.dqd_of hp, .int _, .int _, fun e H' kx rf => ?_, fun f e => kE f (eF ▸ e)⟩
  rw [ec, el, ez, ez] at rf
  exact k (eF ▸ e) H' kx (rf.congr ej ep)

/-! ### reckonings compared -/
open OQ (TabX RowX SeqAt)
def tabl (n : Nat) (f : Nat → Nat → Nat) : List (List Nat) := (List.range n).map fun i => (List.range n).map (f i)
def Tq (cs : List (List Nat)) : List PyData := cs.map fun c => .tuple (OQ.Tn c)
theorem Tn_eq2 : ∀ p q : List Nat, PyData.eqvAll (OQ.Tn p) (OQ.Tn q) = decide (p = q)
  | [], [] => by rw [OQ.Tn, List.map_nil, PyData.eqvAll]; rfl
  | [], j :: q => by rw [OQ.Tn, OQ.Tn, List.map_nil, List.map_cons, PyData.eqvAll]; rfl
  | i :: p, [] => by rw [OQ.Tn, OQ.Tn, List.map_nil, List.map_cons, PyData.eqvAll]; rfl
  | i :: p, j :: q => by
    have e1 : OQ.Tn (i :: p) = .int (i : Int) :: OQ.Tn p := rfl
    have e2 : OQ.Tn (j :: q) = .int (j : Int) :: OQ.Tn q := rfl
    rw [e1, e2, PyData.eqvAll, PyData.eqv, Tn_eq2 p q, Bool.eq_iff_iff]
    simp only [Bool.and_eq_true, beq_iff_eq, decide_eq_true_eq, List.cons.injEq]
    constructor
    · rintro ⟨h1, h2⟩; exact ⟨by omega, h2⟩
    · rintro ⟨h1, h2⟩; exact ⟨by omega, h2⟩
theorem Tq_eq : ∀ cs ds : List (List Nat), PyData.eqvAll (Tq cs) (Tq ds) = decide (cs = ds)
  | [], [] => by rw [Tq, List.map_nil, PyData.eqvAll]; rfl
  | [], d :: ds => by rw [Tq, Tq, List.map_nil, List.map_cons, PyData.eqvAll]; rfl
  | c :: cs, [] => by rw [Tq, Tq, List.map_nil, List.map_cons, PyData.eqvAll]; rfl
  | c :: cs, d :: ds => by
    have e1 : Tq (c :: cs) = .tuple (OQ.Tn c) :: Tq cs := rfl
    have e2 : Tq (d :: ds) = .tuple (OQ.Tn d) :: Tq ds := rfl
    rw [e1, e2, PyData.eqvAll, PyData.eqv, Tn_eq2, Tq_eq cs ds, Bool.eq_iff_iff]
    simp only [Bool.and_eq_true, decide_eq_true_eq, List.cons.injEq]
theorem Tq_lay : ∀ cs : List (List Nat), PyData.canLayAll0 (Tq cs) = true ∧ PyData.depthAll (Tq cs) ≤ 1
  | [] => by rw [Tq, List.map_nil, PyData.canLayAll0, PyData.depthAll]; exact ⟨rfl, by omega⟩
  | c :: cs => by
    obtain ⟨h1, h2⟩ := Tq_lay cs
    obtain ⟨g1, g2⟩ := OQ.Tn_lay c
    have e : Tq (c :: cs) = .tuple (OQ.Tn c) :: Tq cs := rfl
    rw [e, PyData.canLayAll0, PyData.canLay0, PyData.depthAll, PyData.depth, h1, g1, g2]
    exact ⟨rfl, by omega⟩
theorem Tq_shaped (cs : List (List Nat)) : SeqAt.shaped (.tuple (Tq cs)) = true := by
  obtain ⟨h1, h2⟩ := Tq_lay cs
  unfold SeqAt.shaped
  rw [PyData.canLay0, PyData.depth, h1, Bool.true_and, decide_eq_true_eq]
  omega
theorem TabXT.dp {K : PySem.W.Frag} {H : Hp} {a : Addr} {n : Nat} {f : Nat → Nat → Nat} (h : TabXT K H a n f) : Dp K H (.ref a) (.tuple (Tq (tabl n f))) := by
  obtain ⟨rs, len, sa, rows⟩ := h
  refine .tup sa ?_
  have gen : ∀ (ts : List Addr) (k : Nat), (∀ (i : Nat) (r : Addr), ts[i]? = some r → SqT K H r ((List.range n).map fun j => V.int (f (k + i) j : Nat))) →
      DpAll K H (ts.map V.ref) (Tq ((List.range' k ts.length).map fun i => (List.range n).map (f i))) := by
    intro ts
    induction ts with
    | nil => intro k _; exact .nil
    | cons t ts ih =>
      intro k h
      have h0 := h 0 t rfl
      refine .cons (.tup h0 ?_) (ih (k + 1) fun i r hr => ?_)
      · have : (List.range n).map (fun j => V.int (f (k + 0) j : Nat)) = WW.Ns ((List.range n).map (f k)) := by
          unfold WW.Ns; rw [List.map_map]; rfl
        rw [this]
        exact OQ.Tn_all _
      · have := h (i + 1) r (by simpa using hr)
        rwa [show k + (i + 1) = k + 1 + i from by omega] at this
  have := gen rs 0 (by simpa using rows)
  unfold tabl
  rw [len, ← List.range_eq_range'] at this
  exact this
theorem tab_ne {K : PySem.W.Frag} {H : Hp} {Q : VK} {a b : Addr} {n m : Nat} {f g : Nat → Nat → Nat} (ha : TabXT K H a n f) (hb : TabXT K H b m g) (k : Q (.bl (!decide (tabl n f = tabl m g))) H) : rNeD K (.ref a) (.ref b) H Q :=
  ⟨_, _, ha.dp, hb.dp, Tq_shaped _, Tq_shaped _, by rw [PyData.eqv, Tq_eq]; exact k⟩
theorem tabl_len {n : Nat} {f : Nat → Nat → Nat} : (tabl n f).length = n := by unfold tabl; rw [List.length_map, List.length_range]
theorem tabl_congr {n : Nat} {f g : Nat → Nat → Nat} (e : Eqn n f g) : tabl n f = tabl n g := by
  unfold tabl
  exact List.map_congr_left fun i mi => List.map_congr_left fun j mj => e i j (List.mem_range.mp mi) (List.mem_range.mp mj)
def spRekEq (K : PySem.W.Frag) (C : Addr) : Sp := fun vs H Q _ => ∃ (x y : Addr) (n : Nat) (J M : Nat → Nat → Nat) (z o n' : Nat) (J' M' : Nat → Nat → Nat) (z' o' : Nat), vs = [.ref x, .ref y] ∧ RekF K C H x n J M z o ∧ RekF K C H y n' J' M' z' o' ∧
  Q (.bl (decide (tabl n J = tabl n' J' ∧ tabl n M = tabl n' M' ∧ z = z' ∧ o = o'))) H
section
variable {P : Program} {w : World} {K : PySem.W.Frag} {mg : Str → Option Value} {base : Heap} {H : Hp} {R : V → Prop}
theorem rfJ (T : Top K mg) {x : Addr} {n : Nat} {J M : Nat → Nat → Nat} {z o : Nat} (h : RekF K T.C_Reckoning H x n J M z o) (k : ∀ jt, TabXT K H jt n J → R (.ref jt)) : ∃ a' C dx fs v, V.ref x = .ref a' ∧ H a' = some (.ins C dx fs) ∧ Cls K C ∧ NoAttr K C "joins" ∧ fs.lookup ("joins" : Str) = some v ∧ R v := by
  obtain ⟨dx, jt, pt, mt, lt, rt, e, t1, _⟩ := h
  exact ⟨x, _, dx, _, _, rfl, e, T.cl_Reckoning, T.na_Reckoning_joins, lk_eq, k jt t1⟩
theorem rfP (T : Top K mg) {x : Addr} {n : Nat} {J M : Nat → Nat → Nat} {z o : Nat} (h : RekF K T.C_Reckoning H x n J M z o) (k : ∀ jt, TabXT K H jt n M → R (.ref jt)) : ∃ a' C dx fs v, V.ref x = .ref a' ∧ H a' = some (.ins C dx fs) ∧ Cls K C ∧ NoAttr K C "products" ∧ fs.lookup ("products" : Str) = some v ∧ R v := by
  obtain ⟨dx, jt, pt, mt, lt, rt, e, t1, t2, _⟩ := h
  exact ⟨x, _, dx, _, _, rfl, e, T.cl_Reckoning, T.na_Reckoning_products, (lk_ne (by decide +kernel)).trans lk_eq, k pt t2⟩
theorem rfN (T : Top K mg) {x : Addr} {n : Nat} {J M : Nat → Nat → Nat} {z o : Nat} (h : RekF K T.C_Reckoning H x n J M z o) (k : R (.int z)) : ∃ a' C dx fs v, V.ref x = .ref a' ∧ H a' = some (.ins C dx fs) ∧ Cls K C ∧ NoAttr K C "none" ∧ fs.lookup ("none" : Str) = some v ∧ R v := by
  obtain ⟨dx, jt, pt, mt, lt, rt, e, t1, t2, _⟩ := h
  exact ⟨x, _, dx, _, _, rfl, e, T.cl_Reckoning, T.na_Reckoning_none, (lk_ne (by decide +kernel)).trans ((lk_ne (by decide +kernel)).trans lk_eq), k⟩
theorem rfO (T : Top K mg) {x : Addr} {n : Nat} {J M : Nat → Nat → Nat} {z o : Nat} (h : RekF K T.C_Reckoning H x n J M z o) (k : R (.int o)) : ∃ a' C dx fs v, V.ref x = .ref a' ∧ H a' = some (.ins C dx fs) ∧ Cls K C ∧ NoAttr K C "one" ∧ fs.lookup ("one" : Str) = some v ∧ R v := by
  obtain ⟨dx, jt, pt, mt, lt, rt, e, t1, t2, _⟩ := h
  exact ⟨x, _, dx, _, _, rfl, e, T.cl_Reckoning, T.na_Reckoning_one, (lk_ne (by decide +kernel)).trans ((lk_ne (by decide +kernel)).trans ((lk_ne (by decide +kernel)).trans lk_eq)), k⟩
theorem rfTy (T : Top K mg) {x : Addr} {n : Nat} {J M : Nat → Nat → Nat} {z o : Nat} (h : RekF K T.C_Reckoning H x n J M z o) : TyX K H (.ref x) (.ref T.C_Reckoning) := by
  obtain ⟨dx, jt, pt, mt, lt, rt, e, _⟩ := h
  exact .base (.ins e T.cl_Reckoning T.ha_Reckoning T.hnO T.htO T.hm_Reckoning)
theorem rfM {C : Addr} {x : Addr} {n : Nat} {J M : Nat → Nat → Nat} {z o : Nat} {m : Str} {R : Prop} (h : RekF K C H x n J M z o) (hm : m ∈ ([("_joined" : Str), ("_meet" : Str), ("_left" : Str), ("_right" : Str), ("is_worth" : Str), ("beneath" : Str), ("join" : Str), ("times" : Str), ("meet" : Str), ("greatest" : Str), ("left" : Str), ("right" : Str)] : List Str)) (k : R) : ∃ a' dx fs, V.ref x = .ref a' ∧ H a' = some (.ins C dx fs) ∧ fs.lookup m = none ∧ R := rekM h.rek hm k
theorem ok_Reckoning__eq (T : Top K mg) : FnOk P w K mg base CX0 2 T.f_Reckoning__eq T.fd_Reckoning__eq ["self", "other"] (spRekEq K T.C_Reckoning) := by
  refine T.F_Reckoning__eq.ok sc_Reckoning__eq (fun vs H Q E h => ?_) (fun cdv A outer s H vs Q E hr h => ?_)
  · obtain ⟨x, y, n, J, M, z, o, n', J', M', z', o', rfl, _⟩ := h; rfl
  · obtain ⟨x, y, n, J, M, z, o, n', J', M', z', o', rfl, rx, ry, k⟩ := h
    refine ⟨_, (pss_cons (ps_if (pt_not (pt_val (pe_callB call_isi (by rfl) T.n_isinstance (by decide +kernel) (pa_cons (pv 1) (pa_cons (pe_glob (v := V.ref T.C_Reckoning) (by rfl) T.g_Reckoning rfl) pa_nil)))))
 (pss_one (ps_ret pe_bl))
 pss_nil)
 (pss_cons (ps_if (PW.pt (pw_or (pt_cmpR (op_neD hr.units) (pe_fld (pv 0) (by rfl)) (pe_fld (pv 1) (by rfl)) (nomark _)) (pw_or1 (pt_cmpR (op_neD hr.units) (pe_fld (pv 0) (by rfl)) (pe_fld (pv 1) (by rfl)) (nomark _)))))
 (pss_one (ps_ret pe_bl))
 pss_nil)
 (pss_one (ps_ret (pe_and (pe_cmpR op_eq (pe_fld (pv 0) (by rfl)) (pe_fld (pv 1) (by rfl)) (nomark _)) (pe_one (pe_cmpR op_eq (pe_fld (pv 0) (by rfl)) (pe_fld (pv 1) (by rfl)) (nomark _)))))))), ?_⟩
    walk_at "tx"
    refine RD.d_isi (.own _) (rfTy T ry) T.kRR ?_
    refine ⟨true, rfl, RD.d_iteNT ?_⟩
    walk_at "tx"
    refine rfJ T rx (fun jt tj => ?_)
    walk_at "tx"
    refine rfJ T ry (fun jt' tj' => ?_)
    refine tab_ne tj tj' ?_
    walk_at "tx"
    refine RD.iteN (fun c1 => ?_) (fun c1 => ?_)
    · rw [decide_eq_false (fun z => c1 z.1)] at k
      walk_at "tx"
      exact k
    walk_at "tx"
    refine rfP T rx (fun pt tp => ?_)
    walk_at "tx"
    refine rfP T ry (fun pt' tp' => ?_)
    refine tab_ne tp tp' ?_
    walk_at "tx"
    refine RD.iteN (fun c2 => ?_) (fun c2 => ?_)
    · rw [decide_eq_false (fun z => c2 z.2.1)] at k
      walk_at "tx"
      exact k
    walk_at "tx"
    refine rfN T rx ?_
    walk_at "tx"
    refine rfN T ry ?_
    walk_at "tx"
    refine RD.iteD (fun c3 => ?_) (fun c3 => ?_)
    · walk_at "tx"
      refine rfO T rx ?_
      walk_at "tx"
      refine rfO T ry ?_
      walk_at "tx"
      have : decide (tabl n J = tabl n' J' ∧ tabl n M = tabl n' M' ∧ z = z' ∧ o = o') = decide ((o : Int) = (o' : Int)) := by
        rw [decide_eq_decide]
        exact ⟨fun z => by omega, fun z => ⟨c1, c2, by omega, by omega⟩⟩
      rw [this] at k
      exact k
    · rw [decide_eq_false (fun z => c3 (by omega))] at k
      exact k
end

/-! ### the law's draws -/
def handV (c : Addr) (p q m n : Int) : List V := [.ref c, .int p, .int q, .int m, .int n]
/-- the hand at h -/
def HandAt (H : Hp) (h c : Addr) : Prop := ∃ (cs : List Int) (p q m n : Int), H h = some (.lst (handV c p q m n)) ∧ H c = some (.lst (cs.map V.int)) ∧ c ≠ h ∧ 0 ≤ p
/-- all but what stands at h is as it was -/
def But (h : Addr) (H H' : Hp) : Prop := ∀ b, b ≠ h → H' b = H b
def spDraw : Sp := fun vs H Q _ => ∃ (h c : Addr) (many : Int), vs = [.ref h, .int many] ∧ HandAt H h c ∧ 0 < many ∧ many.natAbs.log2 < 9000 ∧
  ∀ (r : Int) (H' : Hp), 0 ≤ r → r < many → HandAt H' h c → But h H H' → Q (.int r) H'
def spHand (K : PySem.W.Frag) : Sp := fun vs H Q _ => ∃ (a : Addr) (ns : List Int), vs = [.ref a] ∧ SqL K H a (ns.map V.int) ∧ ns.length ≤ 63 ∧
  ∀ (h c : Addr) (H' : Hp), HandAt H' h c → Same H H' → H h = none → Q (.ref h) H'
theorem upd_upd {H : Hp} {p : Addr} {o u : HO} : upd (upd H p o) p u = upd H p u := by
  funext b
  by_cases e : b = p
  · subst e; rw [upd_same, upd_same]
  · rw [upd_ne e, upd_ne e, upd_ne e]
theorem upd_id {H : Hp} {p : Addr} {o : HO} (e : H p = some o) : upd H p o = H := by
  funext b
  by_cases h : b = p
  · subst h; rw [upd_same, e]
  · rw [upd_ne h]
theorem upd_none {H : Hp} {p q : Addr} {o : HO} (e : upd H p o q = none) : q ≠ p ∧ H q = none := by
  by_cases h : q = p
  · subst h; rw [upd_same] at e; cases e
  · rw [upd_ne h] at e; exact ⟨h, e⟩
theorem ne_of_free {H : Hp} {p q : Addr} {o : HO} (e : upd H p o q = none) : q ≠ p := (upd_none e).1

/-! ### what a draw leaves -/
theorem HandAt.same {H H' : Hp} {h c : Addr} (x : HandAt H h c) (s : Same H H') : HandAt H' h c := by
  obtain ⟨cs, p, q, m, n, e1, e2, ne, hp⟩ := x
  exact ⟨cs, p, q, m, n, s _ _ e1, s _ _ e2, ne, hp⟩
theorem log2_lt {i : Int} (k : i.natAbs < 2 ^ 64) : i.natAbs.log2 < 9000 := by
  by_cases z : i.natAbs = 0
  · rw [z]; decide
  · exact Nat.lt_trans ((Nat.log2_lt z).mpr k) (by decide)
theorem But.sqT {K : PySem.W.Frag} {H H' : Hp} {h c a : Addr} {xs : List V} (b : But h H H') (x : HandAt H h c) (s : SqT K H a xs) : SqT K H' a xs := by
  obtain ⟨cs, p, q, m, n, e1, _⟩ := x
  rcases s with (s | ⟨o, s⟩) | s
  · exact .inl (.inl (by rw [b a (fun z => by subst z; rw [s] at e1; cases e1)]; exact s))
  · exact .inl (.inr ⟨o, by rw [b a (fun z => by subst z; rw [s] at e1; cases e1)]; exact s⟩)
  · exact .inr s
theorem But.tabT {K : PySem.W.Frag} {H H' : Hp} {h c a : Addr} {n : Nat} {f : Nat → Nat → Nat} (b : But h H H') (x : HandAt H h c) (s : TabXT K H a n f) : TabXT K H' a n f := by
  obtain ⟨rs, l, e, q⟩ := s
  exact ⟨rs, l, b.sqT x e, fun i r z => b.sqT x (q i r z)⟩
theorem But.tabL {H H' : Hp} {h c a : Addr} {n : Nat} {f : Nat → Nat → Nat} (b : But h H H') (x : HandAt H h c) (n2 : 2 ≤ n) (s : TabXL H a n f) : TabXL H' a n f := by
  obtain ⟨rs, l, e, q⟩ := s
  obtain ⟨cs, p, q', m, k, e1, _⟩ := x
  refine ⟨rs, l, ?_, fun i r z => ?_⟩
  · rw [b a (fun z => ?_)]; exact e
    subst z
    rw [e] at e1
    have := HO.lst.inj (Option.some.inj e1)
    match rs, l with
    | [], l => simp at l; omega
    | [_], l => simp at l; omega
    | _ :: _ :: _, _ => simp [handV] at this
  · have qr := q i r z
    rw [b r (fun y => ?_)]; exact qr
    subst y
    rw [qr] at e1
    have := HO.lst.inj (Option.some.inj e1)
    match n, n2 with
    | n + 1, _ =>
      rw [List.range_succ_eq_map] at this
      simp [handV] at this
theorem But.ins {H H' : Hp} {h c a C dx : Addr} {fs : List (Str × V)} (b : But h H H') (x : HandAt H h c) (s : H a = some (.ins C dx fs)) : H' a = some (.ins C dx fs) := by
  obtain ⟨cs, p, q, m, n, e1, _⟩ := x
  rw [b a (fun z => by subst z; rw [s] at e1; cases e1)]; exact s
theorem RekF.but {K : PySem.W.Frag} {C : Addr} {H H' : Hp} {x h c : Addr} {n : Nat} {J M : Nat → Nat → Nat} {z o : Nat} (r : RekF K C H x n J M z o) (b : But h H H') (hd : HandAt H h c) : RekF K C H' x n J M z o := by
  obtain ⟨dx, jt, pt, mt, lt, rt, e, t1, t2, t3, t4, t5, rf, n2, rest⟩ := r
  exact ⟨dx, jt, pt, mt, lt, rt, b.ins hd e, b.tabT hd t1, b.tabT hd t2, b.tabL hd n2 t3, b.tabL hd n2 t4, b.tabL hd n2 t5, rf, n2, rest⟩

section
variable {P : Program} {w : World} {K : PySem.W.Frag} {mg : Str → Option Value} {base : Heap}
theorem ok_law_draw (T : Top K mg) : FnOk P w K mg base CX0 1 T.f_law_draw T.fd_law_draw ["hand", "many"] spDraw := by
  refine T.F_law_draw.ok sc_law_draw (fun vs H Q E h => ?_) (fun cdv A outer s H vs Q E hr h => ?_)
  · obtain ⟨h, c, many, rfl, _⟩ := h; rfl
  · obtain ⟨h, c, many, rfl, ⟨cs, p, q, m, n, e1, e2, ne, hp⟩, m0, ml, k⟩ := h
    refine ⟨_, (C8.pss_cut (ps_if (PW.pt (pw_and (pt_cmpR op_eq (pe_ix ix_list (pv 0) pe_int (fun _ _ => rfl)) pe_int (nomark _)) (pw_and1 (pt_cmpR op_lt (pe_ix ix_list (pv 0) pe_int (fun _ _ => rfl)) (pe_callB RD.c_len (by rfl) T.n_len (by decide +kernel) (pa_cons (pe_ix ix_list (pv 0) pe_int (fun _ _ => rfl)) pa_nil)) (nomark _)))))
 (pss_cons (ps_set (i := 2) sc_law_draw.nd rfl (Or.inl rfl) (pe_ix ix_list (pe_ix ix_list (pv 0) pe_int (fun _ _ => rfl)) (pe_ix ix_list (pv 0) pe_int (fun _ _ => rfl)) (fun _ _ => rfl)))
 (pss_cons (ps_asg (pe_op op_add (pe_ix ix_list (pv 0) pe_int (fun _ _ => rfl)) pe_int) (pg_sub (pv 0) pe_int set_list))
 (pss_cons (ps_asg (pe_op op_mod (pe_callTy RD.c_int (by rfl) T.n_int (by decide +kernel) (pa_cons (pe_op op_add (pe_op op_add (pe_op op_mul (pe_ix ix_list (pv 0) pe_int (fun _ _ => rfl)) pe_int) (pv 2)) pe_int) pa_nil)) pe_int) (pg_sub (pv 0) pe_int set_list))
 (pss_one (ps_if (pt_cmpR op_ge (pv 2) (pe_op op_pow pe_int pe_int) (nomark _))
 (pss_one (ps_asg (pv 2) (pg_sub (pv 0) pe_int set_list)))
 pss_nil)))))
 pss_nil)
 (pss_cons (ps_if (pt_cmpR op_gt (pe_ix ix_list (pv 0) pe_int (fun _ _ => rfl)) pe_int (nomark _))
 (pss_cons (ps_set (i := 3) sc_law_draw.nd rfl (Or.inl rfl) (pe_op op_mod (pe_callTy RD.c_int (by rfl) T.n_int (by decide +kernel) (pa_cons (pe_ix ix_list (pv 0) pe_int (fun _ _ => rfl)) pa_nil)) (pv 1)))
 (pss_cons (ps_asg (pe_op op_fdivW (pe_ix ix_list (pv 0) pe_int (fun _ _ => rfl)) (pv 1)) (pg_sub (pv 0) pe_int set_list))
 (pss_one (ps_ret (pv 3)))))
 pss_nil)
 (pss_cons (ps_asg (pe_op op_add (pe_ix ix_list (pv 0) pe_int (fun _ _ => rfl)) pe_int) (pg_sub (pv 0) pe_int set_list))
 (pss_cons (ps_set (i := 4) sc_law_draw.nd rfl (Or.inl rfl) (pe_op op_mod (pe_callTy RD.c_int (by rfl) T.n_int (by decide +kernel) (pa_cons (pe_op op_mul (pe_callTy RD.c_int (by rfl) T.n_int (by decide +kernel) (pa_cons (pe_op op_add (pe_ix ix_list (pv 0) pe_int (fun _ _ => rfl)) (pe_op op_mul pe_int (pe_ix ix_list (pv 0) pe_int (fun _ _ => rfl)))) pa_nil)) pe_int) pa_nil)) pe_int))
 (pss_cons (ps_set (i := 4) sc_law_draw.nd rfl (Or.inl rfl) (pe_op op_mod (pe_callTy RD.c_int (by rfl) T.n_int (by decide +kernel) (pa_cons (pe_op op_mul (pv 4) (pe_op op_add (pe_op op_fdivW (pv 4) pe_int) pe_int)) pa_nil)) pe_int))
 (pss_cons (ps_set (i := 4) sc_law_draw.nd rfl (Or.inl rfl) (pe_op op_mod (pe_callTy RD.c_int (by rfl) T.n_int (by decide +kernel) (pa_cons (pe_op op_mul (pv 4) (pe_op op_add (pe_op op_fdivW (pv 4) pe_int) pe_int)) pa_nil)) pe_int))
 (pss_one (ps_ret (pe_op op_mod (pe_callTy RD.c_int (by rfl) T.n_int (by decide +kernel) (pa_cons (pe_op op_fdivW (pv 4) pe_int) pa_nil)) (pv 1)))))))))), ?_⟩
    unfold handV at e1
    refine RD.d_cut (fun σ' H' => ∃ x p' q' m', σ' = [some (.ref h), some (.int many), x, none, none] ∧ H' = upd H h (.lst [.ref c, .int p', .int q', .int m', .int n]) ∧ 0 ≤ p') ?_ ?_
    · walk_at "rd"
      refine RD.iteD (fun c1 => ?_) (fun c1 => ?_)
      · walk_at "rd"
        refine RD.iteD (fun c2 => ?_) (fun c2 => ?_)
        · have hl : p.toNat < cs.length := by rw [List.length_map] at c2; omega
          have hg : (cs.map V.int)[p.toNat]? = some (V.int cs[p.toNat]) := by simp [hl]
          have ha : atI (cs.map V.int) p = some (V.int cs[p.toNat]) := by
            have z := atI_nat hg
            rwa [Int.toNat_of_nonneg hp] at z
          walk_at "rd"
          refine RD.d_ixL (SqL.of e2) ha ?_
          walk_at "rd"
          refine RD.iteD (fun c3 => ?_) (fun c3 => ?_)
          · walk_at "rd"
            exact ⟨_, p + 1, cs[p.toNat], (m * 69621 + cs[p.toNat] + 11) % 2147483629, rfl, (by rw [upd_upd, upd_upd]; rfl), by omega⟩
          · walk_at "rd"
            exact ⟨_, p + 1, q, (m * 69621 + cs[p.toNat] + 11) % 2147483629, rfl, (by rw [upd_upd]; rfl), by omega⟩
        · walk_at "rd"
          exact ⟨none, p, q, m, rfl, (upd_id e1).symm, hp⟩
      · walk_at "rd"
        exact ⟨none, p, q, m, rfl, (upd_id e1).symm, hp⟩
    · rintro σ' H' ⟨x, p', q', m', rfl, rfl, hp'⟩
      have fin : ∀ q2 n2 : Int, HandAt (upd H h (.lst [.ref c, .int p', .int q2, .int m', .int n2])) h c ∧ But h H (upd H h (.lst [.ref c, .int p', .int q2, .int m', .int n2])) := fun q2 n2 =>
        ⟨⟨cs, p', q2, m', n2, upd_same, (by rw [upd_ne ne]; exact e2), ne, hp'⟩, fun b hb => upd_ne hb⟩
      walk_at "rd"
      refine RD.iteD (fun c1 => ?_) (fun c1 => ?_)
      · walk_at "rd"
        rw [upd_upd]
        exact k _ _ (Int.emod_nonneg _ (by omega)) (Int.emod_lt_of_pos _ m0) (fin _ _).1 (fin _ _).2
      · walk_at "rd"
        rw [upd_upd]
        exact k _ _ (Int.emod_nonneg _ (by omega)) (Int.emod_lt_of_pos _ m0) (fin _ _).1 (fin _ _).2
end
section
variable {P : Program} {w : World} {K : PySem.W.Frag} {mg : Str → Option Value} {base : Heap}
theorem ok_law_hand (T : Top K mg) : FnOk P w K mg base CX0 1 T.f_law_hand T.fd_law_hand ["script"] (spHand K) := by
  refine T.F_law_hand.ok sc_law_hand (fun vs H Q E h => ?_) (fun cdv A outer s H vs Q E hr h => ?_)
  · obtain ⟨a, ns, rfl, _⟩ := h; rfl
  · obtain ⟨a, ns, rfl, hS, hl, k⟩ := h
    refine ⟨_, (pss_cons (ps_setLc (i := 1) (own := [("cell", 2)]) (g := (gName 2)) (tt := tYes) rfl sc_law_hand.nd rfl rfl (sw_true rfl rfl rfl (by decide +kernel)) (pi_list (pe_slice sl_list (pv 0) po_none (po_some pe_int))) (blkOk_by (own := [("cell", 2)]) (N := ["script", "cells", "cell"]) (sc := defScope s_law_hand) (by decide +kernel)) (fun _ _ _ _ _ => (pg_name (i := 2) sc_law_hand.nd rfl (Or.inl rfl))) (fun _ _ _ _ _ => pts_nil) (fun _ _ _ _ _ => (pe_callB RD.c_abs (by rfl) T.n_abs (by decide +kernel) (pa_cons (pe_callTy RD.c_int (by rfl) T.n_int (by decide +kernel) (pa_cons (pv 2) pa_nil)) pa_nil))))
 (pss_one (ps_ret (pe_lst (pa_cons (pv 1) (pa_cons pe_int (pa_cons pe_int (pa_cons (pe_op op_add pe_int (pe_callB RD.c_len (by rfl) T.n_len (by decide +kernel) (pa_cons (pv 1) pa_nil))) (pa_cons pe_int pa_nil))))))))), ?_⟩
    walk_at "rd"
    refine ⟨a, ns.map V.int, rfl, hS, fun p hp => ?_⟩
    walk_at "rd"
    intro D hD
    have nD : D ≠ p := ne_of_free hD
    have hz : ∀ v ∈ cutV (ns.map V.int) none (some 63), ∃ z : Int, v = V.int z := fun v hv => by
      have q := List.mem_of_mem_take hv
      have q2 := List.mem_of_mem_drop q
      obtain ⟨z, _, rfl⟩ := List.mem_map.mp q2
      exact ⟨z, rfl⟩
    have hlen : (cutV (ns.map V.int) none (some 63)).length ≤ 63 := Nat.le_trans (cutV_length _ _ _) (by rw [List.length_map]; exact hl)
    refine lc_list (K := K) (a := p) (xs := cutV (ns.map V.int) none (some 63)) (fun i H' => Same H H' ∧ H D = none ∧ H' p = some (.lst (cutV (ns.map V.int) none (some 63))) ∧ ∃ cs : List Int, H' D = some (.lst (cs.map V.int)) ∧ cs.length ≤ i) ?_ ?_ ?_ ?_
    · refine ⟨fun b o e => ?_, (upd_none hD).2, by rw [upd_ne nD.symm, upd_same], [], upd_same, Nat.le_refl _⟩
      rw [upd_ne (ne_of_none e (upd_none hD).2), upd_ne (ne_of_none e hp)]; exact e
    · exact fun i H' _ q => SqL.of q.2.2.1
    · rintro i x H' hi ⟨s0, d0, hp', cs, hc, hcl⟩
      obtain ⟨z, rfl⟩ := hz x (List.mem_of_getElem? hi)
      have hi' : i < 63 := Nat.lt_of_lt_of_le (List.getElem?_eq_some_iff.mp hi).1 hlen
      walk_at "rd"
      refine ⟨_, hc, Nat.lt_of_le_of_lt (by rw [List.length_map]; exact hcl) (Nat.lt_of_lt_of_le hi' (by decide)), fun b o e => ?_, d0, by rw [upd_ne nD.symm]; exact hp', cs ++ [_], by rw [upd_same, List.map_append]; rfl, by simp; omega⟩
      rw [upd_ne (ne_of_none e d0)]; exact s0 b o e
    · rintro H' ⟨s0, d0, hp', cs, hc, hcl⟩
      walk_at "rd"
      refine ⟨by show 5 ≤ sizeLine; decide, fun h hh => ?_⟩
      refine k h D _ ⟨cs, 0, 0, _, 0, upd_same, by rw [upd_ne (ne_of_none hc hh)]; exact hc, ne_of_none hc hh, Int.le_refl _⟩ (fun b o e => ?_) (s0.free hh)
      rw [upd_ne (ne_of_none (s0 b o e) hh)]; exact s0 b o e
end

/-! ### the tables of chains -/
open OQ (TabX RowX SeqAt)
open RK (Gd)
/-- joins, products, none and one, as a list -/
def ToldL (H : Hp) (t : Addr) (n : Nat) (J M : Nat → Nat → Nat) (z o : Nat) : Prop := ∃ a b : Addr, H t = some (.lst [.ref a, .ref b, .int z, .int o]) ∧ TabXL H a n J ∧ TabXL H b n M
theorem ToldL.same {H H' : Hp} {t : Addr} {n : Nat} {J M : Nat → Nat → Nat} {z o : Nat} (h : ToldL H t n J M z o) (s : Same H H') : ToldL H' t n J M z o := by
  obtain ⟨a, b, h1, h2, h3⟩ := h
  exact ⟨a, b, s _ _ h1, h2.same s, h3.same s⟩
def spChn : Sp := fun vs H Q _ => ∃ (b : Addr) (n : Nat) (M : Nat → Nat → Nat), vs = [.ref b] ∧ TabXL H b n M ∧ 1 ≤ n ∧ n ≤ 17 ∧ ∀ t H', Same H H' → ToldL H' t n max M 0 (n - 1) → Q (.ref t) H'
section
variable {P : Program} {w : World} {K : PySem.W.Frag} {mg : Str → Option Value} {base : Heap}
theorem ok_law_chain (T : Top K mg) : FnOk P w K mg base CX0 1 T.f_law_chain T.fd_law_chain ["products"] spChn := by
  refine T.F_law_chain.ok sc_law_chain (fun vs H Q E h => ?_) (fun cdv A outer s H vs Q E hr h => ?_)
  · obtain ⟨b, n, M, rfl, _⟩ := h; rfl
  · obtain ⟨b, n, M, rfl, tb, n2, n16, k⟩ := h
    refine ⟨_, (pss_cons (ps_set (i := 1) sc_law_chain.nd rfl (Or.inr rfl) (pe_callB RD.c_len (by rfl) T.n_len (by decide +kernel) (pa_cons (pv 0) pa_nil)))
 (pss_one (ps_ret (pe_lst (pa_cons (pe_lc (own := [("a", 2)]) (g := (gName 2)) (tt := tYes) rfl sc_law_chain.nd (pi_range1 (by rfl) T.n_range (pa_cons (pv 1) pa_nil)) (blkOk_by (own := [("a", 2)]) (N := ["products", "many", "a", "b"]) (sc := defScope s_law_chain) (by decide +kernel)) (fun _ _ _ _ _ => (pg_name (i := 2) sc_law_chain.nd rfl (by first | exact Or.inl rfl | exact Or.inr rfl))) (fun _ _ _ _ _ => pts_nil) (fun _ _ _ _ _ => (pe_lc (own := [("b", 3)]) (g := (gName 3)) (tt := tYes) rfl sc_law_chain.nd (pi_range1 (by rfl) T.n_range (pa_cons (pv 1) pa_nil)) (blkOk_by (own := [("b", 3)]) (N := ["products", "many", "a", "b"]) (sc := _) (by kernel_rfl)) (fun _ _ _ _ _ => (pg_name (i := 3) sc_law_chain.nd rfl (by first | exact Or.inl rfl | exact Or.inr rfl))) (fun _ _ _ _ _ => pts_nil) (fun _ _ _ _ _ => (pe_callB (call_max2 rfl) (by rfl) T.n_max (by decide +kernel) (pa_cons (pv 2) (pa_cons (pv 3) pa_nil))))))) (pa_cons (pv 0) (pa_cons pe_int (pa_cons (pe_op op_sub (pv 1) pe_int) pa_nil)))))))), ?_⟩
    walk_at "tx"
    refine tb.x.len ?_
    walk_at "tx"
    refine ⟨n, rfl, by omega, by omega, fun D hD => ?_⟩
    refine lc_range (lo := 0) (n := (n : Int).toNat) (fun i H' => Same H H' ∧ RowsN H' D n i max) ⟨same_upd hD, rowsN_zero⟩ ?_ ?_
    · rintro i H' hi' ⟨s1, r1⟩
      have hi : i < n := by omega
      walk_at "tx"
      refine ⟨n, rfl, by omega, by omega, fun D2 hD2 => ?_⟩
      refine lc_range (lo := 0) (n := (n : Int).toNat) (fun j H'' => Same H' H'' ∧ H'' D2 = some (.lst ((List.range j).map fun c => V.int ((max i c : Nat) : Int)))) ⟨same_upd hD2, upd_same⟩ ?_ ?_
      · rintro j H'' hj' ⟨s2, eD2⟩
        have hj : j < n := by omega
        walk_at "tx"
        refine ⟨_, _, rfl, ?_⟩
        exact rowPutN (g := fun c => max i c) hD2 s2 (by omega) eD2 (by congr 1; split <;> omega)
      · rintro H'' ⟨s2, eD2⟩
        rw [Int.toNat_natCast] at eD2
        exact rowsN_step hD s1 r1 hD2 s2 (by omega) eD2
    · rintro H' ⟨s1, r1⟩
      rw [Int.toNat_natCast] at r1
      have tj : TabXL H' D n max := rowsN_end r1
      walk_at "tx"
      refine ⟨by show 4 ≤ sizeLine; decide, fun t ht => ?_⟩
      rw [show (n : Int) - 1 = ((n - 1 : Nat) : Int) by omega]
      have s2 := same_upd (o := HO.lst [V.ref D, V.ref b, V.int 0, V.int ((n - 1 : Nat) : Int)]) ht
      exact k t _ (s1.trans s2) ⟨D, b, upd_same, tj.same s2, (tb.same s1).same s2⟩
end

/-! ### products of chains -/
open OQ (TabX RowX SeqAt)
open RK (Gd)
def spPrd : Sp := fun vs H Q _ => ∃ (h c : Addr), vs = [.ref h] ∧ HandAt H h c ∧ ∀ (p : Addr) (n : Nat) (M : Nat → Nat → Nat) (H' : Hp), HandAt H' h c → Kx h H H' → TabXL H' p n M → 2 ≤ n → n ≤ 5 → Gd n max M 0 (n - 1) → Q (.ref p) H'
theorem But.kx {h : Addr} {H H' : Hp} (b : But h H H') : Kx h H H' := fun c o n e => by rw [b c n]; exact e
theorem HandAt.ne {H : Hp} {h c a : Addr} (x : HandAt H h c) (e : H a = none) : a ≠ h ∧ a ≠ c := by
  obtain ⟨cs, p, q, m, n, e1, e2, _⟩ := x
  refine ⟨fun z => ?_, fun z => ?_⟩
  · rw [z, e1] at e; cases e
  · rw [z, e2] at e; cases e
theorem HandAt.put {H : Hp} {h c a : Addr} {o : HO} (x : HandAt H h c) (n1 : a ≠ h) (n2 : a ≠ c) : HandAt (upd H a o) h c := by
  obtain ⟨cs, p, q, m, n, e1, e2, ne, hp⟩ := x
  exact ⟨cs, p, q, m, n, by rw [upd_ne n1.symm]; exact e1, by rw [upd_ne n2.symm]; exact e2, ne, hp⟩
theorem Kx.tabL {H H' : Hp} {h c a : Addr} {n : Nat} {f : Nat → Nat → Nat} (k : Kx h H H') (x : HandAt H h c) (n2 : 2 ≤ n) (s : TabXL H a n f) : TabXL H' a n f := by
  obtain ⟨rs, l, e, q⟩ := s
  obtain ⟨cs, p, q', m, kk, e1, _⟩ := x
  refine ⟨rs, l, k _ _ (fun z => ?_) e, fun i r z => k _ _ (fun y => ?_) (q i r z)⟩
  · subst z
    rw [e] at e1
    have := HO.lst.inj (Option.some.inj e1)
    match rs, l with
    | [], l => simp at l; omega
    | [_], l => simp at l; omega
    | _ :: _ :: _, _ => simp [handV] at this
  · have qr := q i r z
    subst y
    rw [qr] at e1
    have := HO.lst.inj (Option.some.inj e1)
    match n, n2 with
    | n + 1, _ =>
      rw [List.range_succ_eq_map] at this
      simp [handV] at this
theorem dcell {i j n : Nat} (h : i ≠ n - 1) : V.int ((if 0 + (j : Int) < 0 + i then 0 + (j : Int) else 0 + i) * if decide (0 + (j : Int) = ((n - 1 : Nat) : Int)) = true then 1 else 0) = V.int ((if i = n - 1 ∨ j = n - 1 then min i j else 0 : Nat) : Int) := by
  congr 1
  by_cases e : j = n - 1
  · have e1 : (if decide (0 + (j : Int) = ((n - 1 : Nat) : Int)) = true then 1 else 0) = (1 : Int) := if_pos (decide_eq_true (by omega))
    rw [e1, if_pos (Or.inr e), Int.mul_one]; split <;> omega
  · have e1 : (if decide (0 + (j : Int) = ((n - 1 : Nat) : Int)) = true then 1 else 0) = (0 : Int) := if_neg (by rw [decide_eq_true_eq]; omega)
    have e2 : (if i = n - 1 ∨ j = n - 1 then min i j else 0) = 0 := if_neg (fun z => z.elim h e)
    rw [e1, e2, Int.mul_zero]; rfl
section
variable {P : Program} {w : World} {K : PySem.W.Frag} {mg : Str → Option Value} {base : Heap}
theorem ok_law_products (T : Top K mg) : FnOk P w K mg base CX0 2 T.f_law_products T.fd_law_products ["hand"] spPrd := by
  refine T.F_law_products.ok sc_law_products (fun vs H Q E h => ?_) (fun cdv A outer s H vs Q E hr h => ?_)
  · obtain ⟨h, c, rfl, _⟩ := h; rfl
  · obtain ⟨h, c, rfl, hT, k⟩ := h
    refine ⟨_, (pss_cons (ps_set (i := 1) sc_law_products.nd rfl (Or.inl rfl) (pe_call (ok_law_draw T) (hr.mono (by decide)) (by rfl) T.g_law_draw T.F_law_draw.kp T.b_law_draw .nil pass0 (pa_cons (pv 0) (pa_cons pe_int pa_nil))))
 (pss_cons (ps_if (pt_cmpR op_eq (pv 1) pe_int (nomark _))
 (pss_one (ps_ret (pe_lst (pa_cons (pe_lst (pa_cons pe_int (pa_cons pe_int (pa_cons pe_int (pa_cons pe_int pa_nil))))) (pa_cons (pe_lst (pa_cons pe_int (pa_cons pe_int (pa_cons pe_int (pa_cons pe_int pa_nil))))) (pa_cons (pe_lst (pa_cons pe_int (pa_cons pe_int (pa_cons pe_int (pa_cons pe_int pa_nil))))) (pa_cons (pe_lst (pa_cons pe_int (pa_cons pe_int (pa_cons pe_int (pa_cons pe_int pa_nil))))) pa_nil)))))))
 pss_nil)
 (pss_cons (ps_set (i := 2) sc_law_products.nd rfl (Or.inr rfl) (pe_op op_add pe_int (pe_call (ok_law_draw T) (hr.mono (by decide)) (by rfl) T.g_law_draw T.F_law_draw.kp T.b_law_draw .nil pass0 (pa_cons (pv 0) (pa_cons pe_int pa_nil)))))
 (pss_cons (ps_set (i := 3) sc_law_products.nd rfl (Or.inr rfl) (pe_op op_sub (pv 2) pe_int))
 (pss_cons (ps_if (pt_cmpR op_eq (pv 1) pe_int (nomark _))
 (pss_one (ps_ret (pe_lc (own := [("a", 4)]) (g := (gName 4)) (tt := tYes) rfl sc_law_products.nd (pi_range1 (by rfl) T.n_range (pa_cons (pv 2) pa_nil)) (blkOk_by (own := [("a", 4)]) (N := ["hand", "kind", "many", "top", "a", "b"]) (sc := defScope s_law_products) (by decide +kernel)) (fun _ _ _ _ _ => (pg_name (i := 4) sc_law_products.nd rfl (by first | exact Or.inl rfl | exact Or.inr rfl))) (fun _ _ _ _ _ => pts_nil) (fun _ _ _ _ _ => (pe_lc (own := [("b", 5)]) (g := (gName 5)) (tt := tYes) rfl sc_law_products.nd (pi_range1 (by rfl) T.n_range (pa_cons (pv 2) pa_nil)) (blkOk_by (own := [("b", 5)]) (N := ["hand", "kind", "many", "top", "a", "b"]) (sc := _) (by kernel_rfl)) (fun _ _ _ _ _ => (pg_name (i := 5) sc_law_products.nd rfl (by first | exact Or.inl rfl | exact Or.inr rfl))) (fun _ _ _ _ _ => pts_nil) (fun _ _ _ _ _ => (pe_callB (call_min2 rfl) (by rfl) T.n_min (by decide +kernel) (pa_cons (pv 4) (pa_cons (pv 5) pa_nil)))))))))
 pss_nil)
 (pss_cons (ps_if (pt_cmpR op_eq (pv 1) pe_int (nomark _))
 (pss_one (ps_ret (pe_lc (own := [("a", 4)]) (g := (gName 4)) (tt := tYes) rfl sc_law_products.nd (pi_range1 (by rfl) T.n_range (pa_cons (pv 2) pa_nil)) (blkOk_by (own := [("a", 4)]) (N := ["hand", "kind", "many", "top", "a", "b"]) (sc := defScope s_law_products) (by decide +kernel)) (fun _ _ _ _ _ => (pg_name (i := 4) sc_law_products.nd rfl (by first | exact Or.inl rfl | exact Or.inr rfl))) (fun _ _ _ _ _ => pts_nil) (fun _ _ _ _ _ => (pe_lc (own := [("b", 5)]) (g := (gName 5)) (tt := tYes) rfl sc_law_products.nd (pi_range1 (by rfl) T.n_range (pa_cons (pv 2) pa_nil)) (blkOk_by (own := [("b", 5)]) (N := ["hand", "kind", "many", "top", "a", "b"]) (sc := _) (by kernel_rfl)) (fun _ _ _ _ _ => (pg_name (i := 5) sc_law_products.nd rfl (by first | exact Or.inl rfl | exact Or.inr rfl))) (fun _ _ _ _ _ => pts_nil) (fun _ _ _ _ _ => (pe_callB (call_max2 rfl) (by rfl) T.n_max (by decide +kernel) (pa_cons pe_int (pa_cons (pe_op op_sub (pe_op op_add (pv 4) (pv 5)) (pv 3)) pa_nil)))))))))
 pss_nil)
 (pss_one (ps_ret (pe_lc (own := [("a", 4)]) (g := (gName 4)) (tt := tYes) rfl sc_law_products.nd (pi_range1 (by rfl) T.n_range (pa_cons (pv 2) pa_nil)) (blkOk_by (own := [("a", 4)]) (N := ["hand", "kind", "many", "top", "a", "b"]) (sc := defScope s_law_products) (by decide +kernel)) (fun _ _ _ _ _ => (pg_name (i := 4) sc_law_products.nd rfl (by first | exact Or.inl rfl | exact Or.inr rfl))) (fun _ _ _ _ _ => pts_nil) (fun _ _ _ _ _ => (pe_lc (own := [("b", 5)]) (g := (gName 5)) (tt := tYes) rfl sc_law_products.nd (pi_range1 (by rfl) T.n_range (pa_cons (pv 2) pa_nil)) (blkOk_by (own := [("b", 5)]) (N := ["hand", "kind", "many", "top", "a", "b"]) (sc := _) (by kernel_rfl)) (fun _ _ _ _ _ => (pg_name (i := 5) sc_law_products.nd rfl (by first | exact Or.inl rfl | exact Or.inr rfl))) (fun _ _ _ _ _ => pts_nil) (fun _ _ _ _ _ => (pe_op op_mul (pe_callB (call_min2 rfl) (by rfl) T.n_min (by decide +kernel) (pa_cons (pv 4) (pa_cons (pv 5) pa_nil))) (pe_callTy RD.c_int (by rfl) T.n_int (by decide +kernel) (pa_cons (pe_or (pe_cmpR op_eq (pv 4) (pv 3) (nomark _)) (pe_one (pe_cmpR op_eq (pv 5) (pv 3) (nomark _)))) pa_nil))))))))))))))), ?_⟩
    walk_at "tx"
    refine ⟨h, c, 4, rfl, hT, by decide, log2_lt (by decide), fun kd H1 k0 k5 hT1 b1 => ?_⟩
    walk_at "tx"
    refine RD.iteD (fun c3 => ?_) (fun c3 => ?_)
    · walk_at "tx"
      refine ⟨by show 4 ≤ sizeLine; decide, fun q1 hq1 => ?_⟩
      walk_at "tx"
      refine ⟨by show 4 ≤ sizeLine; decide, fun q2 hq2 => ?_⟩
      walk_at "tx"
      refine ⟨by show 4 ≤ sizeLine; decide, fun q3 hq3 => ?_⟩
      walk_at "tx"
      refine ⟨by show 4 ≤ sizeLine; decide, fun q4 hq4 => ?_⟩
      walk_at "tx"
      refine ⟨by show 4 ≤ sizeLine; decide, fun p hp => ?_⟩
      have n12 : q2 ≠ q1 := fun z => by rw [z, upd_same] at hq2; cases hq2
      have n13 : q3 ≠ q1 := fun z => by rw [z, upd_ne n12.symm, upd_same] at hq3; cases hq3
      have n23 : q3 ≠ q2 := fun z => by rw [z, upd_same] at hq3; cases hq3
      have n14 : q4 ≠ q1 := fun z => by rw [z, upd_ne n13.symm, upd_ne n12.symm, upd_same] at hq4; cases hq4
      have n24 : q4 ≠ q2 := fun z => by rw [z, upd_ne n23.symm, upd_same] at hq4; cases hq4
      have n34 : q4 ≠ q3 := fun z => by rw [z, upd_same] at hq4; cases hq4
      have sA := (((same_upd (o := HO.lst [V.int 0, V.int 0, V.int 0, V.int 0]) hq1).trans (same_upd (o := HO.lst [V.int 0, V.int 0, V.int 1, V.int 1]) hq2)).trans (same_upd (o := HO.lst [V.int 0, V.int 0, V.int 2, V.int 2]) hq3)).trans (same_upd (o := HO.lst [V.int 0, V.int 1, V.int 2, V.int 3]) hq4)
      have sB := same_upd (o := HO.lst [V.ref q1, V.ref q2, V.ref q3, V.ref q4]) hp
      refine k p 4 RK.fourP _ (hT1.same (sA.trans sB)) (b1.kx.trans (Same.kx (sA.trans sB))) ⟨[q1, q2, q3, q4], rfl, upd_same, fun i r e => sB _ _ ?_⟩ (by omega) (by omega) RK.gd_four
      match i, e with
      | 0, e => cases e; rw [upd_ne n14.symm, upd_ne n13.symm, upd_ne n12.symm, upd_same]; rfl
      | 1, e => cases e; rw [upd_ne n24.symm, upd_ne n23.symm, upd_same]; rfl
      | 2, e => cases e; rw [upd_ne n34.symm, upd_same]; rfl
      | 3, e => cases e; rw [upd_same]; rfl
    walk_at "tx"
    refine ⟨h, c, 4, rfl, hT1, by decide, log2_lt (by decide), fun r H3 r0 r5 hT3 b2 => ?_⟩
    have k3 : Kx h H H3 := b1.kx.trans b2.kx
    clear hT1 b1 b2
    obtain ⟨n, en, n2, n5⟩ : ∃ n : Nat, 2 + r = n ∧ 2 ≤ n ∧ n ≤ 5 := ⟨(2 + r).toNat, by omega, by omega, by omega⟩
    have fin : ∀ {p : Addr} {M : Nat → Nat → Nat} {H' : Hp}, Same H3 H' → TabXL H' p n M → Gd n max M 0 (n - 1) → Q (.ref p) H' := fun s t w => k _ n _ _ (hT3.same s) (k3.trans (Same.kx s)) t n2 n5 w
    walk_at "tx"
    rw [en, show (n : Int) - 1 = ((n - 1 : Nat) : Int) from by omega]
    refine RD.iteD (fun c6 => ?_) (fun c6 => ?_)
    · walk_at "tx"
      walk_at "tx"
      refine ⟨n, rfl, by omega, by omega, fun D hD => ?_⟩
      refine lc_range (lo := 0) (n := (n : Int).toNat) (fun i H' => Same H3 H' ∧ RowsN H' D n i (fun a b => min a b)) ⟨same_upd hD, rowsN_zero⟩ ?_ ?_
      · rintro i H' hi' ⟨s1, r1⟩
        have hi : i < n := by omega
        walk_at "tx"
        refine ⟨n, rfl, by omega, by omega, fun D2 hD2 => ?_⟩
        refine lc_range (lo := 0) (n := (n : Int).toNat) (fun j H'' => Same H' H'' ∧ H'' D2 = some (.lst ((List.range j).map fun c => V.int (((fun a b => min a b) i c : Nat) : Int)))) ⟨same_upd hD2, upd_same⟩ ?_ ?_
        · rintro j H'' hj' ⟨s2, eD2⟩
          have hj : j < n := by omega
          walk_at "tx"
          refine ⟨_, _, rfl, ?_⟩
          exact rowPutN (g := fun c => min i c) hD2 s2 (by omega) eD2 (by congr 1; split <;> omega)
        · rintro H'' ⟨s2, eD2⟩
          rw [Int.toNat_natCast] at eD2
          exact rowsN_step hD s1 r1 hD2 s2 (by omega) eD2
      · rintro H' ⟨s1, r1⟩
        rw [Int.toNat_natCast] at r1
        walk_at "tx"
        exact fin s1 (rowsN_end r1) (RK.gd_min n2)
    · walk_at "tx"
      refine RD.iteD (fun c7 => ?_) (fun c7 => ?_)
      · walk_at "tx"
        walk_at "tx"
        refine ⟨n, rfl, by omega, by omega, fun D hD => ?_⟩
        refine lc_range (lo := 0) (n := (n : Int).toNat) (fun i H' => Same H3 H' ∧ RowsN H' D n i (RK.cutP n)) ⟨same_upd hD, rowsN_zero⟩ ?_ ?_
        · rintro i H' hi' ⟨s1, r1⟩
          have hi : i < n := by omega
          walk_at "tx"
          refine ⟨n, rfl, by omega, by omega, fun D2 hD2 => ?_⟩
          refine lc_range (lo := 0) (n := (n : Int).toNat) (fun j H'' => Same H' H'' ∧ H'' D2 = some (.lst ((List.range j).map fun c => V.int (((RK.cutP n) i c : Nat) : Int)))) ⟨same_upd hD2, upd_same⟩ ?_ ?_
          · rintro j H'' hj' ⟨s2, eD2⟩
            have hj : j < n := by omega
            walk_at "tx"
            refine ⟨_, _, rfl, ?_⟩
            exact rowPutN (g := fun c => RK.cutP n i c) hD2 s2 (by omega) eD2 (by unfold RK.cutP; congr 1; split <;> omega)
          · rintro H'' ⟨s2, eD2⟩
            rw [Int.toNat_natCast] at eD2
            exact rowsN_step hD s1 r1 hD2 s2 (by omega) eD2
        · rintro H' ⟨s1, r1⟩
          rw [Int.toNat_natCast] at r1
          walk_at "tx"
          exact fin s1 (rowsN_end r1) (RK.gd_cut n2)
      · walk_at "tx"
        walk_at "tx"
        refine ⟨n, rfl, by omega, by omega, fun D hD => ?_⟩
        refine lc_range (lo := 0) (n := (n : Int).toNat) (fun i H' => Same H3 H' ∧ RowsN H' D n i (RK.topP n)) ⟨same_upd hD, rowsN_zero⟩ ?_ ?_
        · rintro i H' hi' ⟨s1, r1⟩
          have hi : i < n := by omega
          walk_at "tx"
          refine ⟨n, rfl, by omega, by omega, fun D2 hD2 => ?_⟩
          refine lc_range (lo := 0) (n := (n : Int).toNat) (fun j H'' => Same H' H'' ∧ H'' D2 = some (.lst ((List.range j).map fun c => V.int (((RK.topP n) i c : Nat) : Int)))) ⟨same_upd hD2, upd_same⟩ ?_ ?_
          · rintro j H'' hj' ⟨s2, eD2⟩
            have hj : j < n := by omega
            walk_at "tx"
            refine ⟨_, _, rfl, ?_⟩
            walk_at "tx"
            refine RD.iteD (fun c8 => ?_) (fun c8 => ?_)
            · walk_at "tx"
              exact rowPutN (g := fun c => RK.topP n i c) hD2 s2 (by omega) eD2 (by unfold RK.topP; rw [if_pos rfl, Int.mul_one, if_pos (Or.inl (by omega : i = n - 1))]; congr 1; split <;> omega)
            · walk_at "tx"
              exact rowPutN (g := fun c => RK.topP n i c) hD2 s2 (by omega) eD2 (by unfold RK.topP; exact dcell (by omega))
          · rintro H'' ⟨s2, eD2⟩
            rw [Int.toNat_natCast] at eD2
            exact rowsN_step hD s1 r1 hD2 s2 (by omega) eD2
        · rintro H' ⟨s1, r1⟩
          rw [Int.toNat_natCast] at r1
          walk_at "tx"
          exact fin s1 (rowsN_end r1) (RK.gd_top n2)
end

/-! ### products of things -/
open OQ (TabX RowX SeqAt)
open RK (Gd Mo)
def Lt (L : List (List Nat)) (a b : Nat) : Nat := (L.getD a []).getD b 0
def rowV (n : Nat) (g : Nat → Nat) : List V := (List.range n).map fun j => V.int (g j : Nat)
/-- a table of products and the one thing, told in a tuple -/
def MonAt (H : Hp) (t : Addr) (n : Nat) (P : Nat → Nat → Nat) (o : Nat) : Prop := ∃ b : Addr, H t = some (.tup [.ref b, .int o]) ∧ TabXL H b n P
theorem MonAt.same {H H' : Hp} {t : Addr} {n o : Nat} {P : Nat → Nat → Nat} (h : MonAt H t n P o) (s : Same H H') : MonAt H' t n P o := by
  obtain ⟨b, h1, h2⟩ := h
  exact ⟨b, s _ _ h1, h2.same s⟩
theorem MonAt.kx {H H' : Hp} {h c t : Addr} {n o : Nat} {P : Nat → Nat → Nat} (m : MonAt H t n P o) (k : Kx h H H') (x : HandAt H h c) (n2 : 2 ≤ n) : MonAt H' t n P o := by
  obtain ⟨b, h1, h2⟩ := m
  refine ⟨b, k _ _ (fun z => ?_) h1, k.tabL x n2 h2⟩
  obtain ⟨cs, p, q', m, kk, e1, _⟩ := x
  subst z
  rw [h1] at e1
  cases e1
theorem mk2 {H : Hp} {q1 q2 p t : Addr} {r1 r2 : List V} {vo : V} {P : Nat → Nat → Nat} {o : Nat} (h1 : H q1 = none) (h2 : upd H q1 (.lst r1) q2 = none) (h3 : upd (upd H q1 (.lst r1)) q2 (.lst r2) p = none)
    (h4 : upd (upd (upd H q1 (.lst r1)) q2 (.lst r2)) p (.lst [.ref q1, .ref q2]) t = none) (eo : vo = .int (o : Nat)) (e1 : r1 = rowV 2 (P 0)) (e2 : r2 = rowV 2 (P 1)) :
    MonAt (upd (upd (upd (upd H q1 (.lst r1)) q2 (.lst r2)) p (.lst [.ref q1, .ref q2])) t (.tup [.ref p, vo])) t 2 P o ∧ Same H (upd (upd (upd (upd H q1 (.lst r1)) q2 (.lst r2)) p (.lst [.ref q1, .ref q2])) t (.tup [.ref p, vo])) := by
  have s4 := same_upd (o := HO.tup [V.ref p, vo]) h4
  have s3 := same_upd (o := HO.lst [V.ref q1, V.ref q2]) h3
  have s2 := same_upd (o := HO.lst r2) h2
  have s1 := same_upd (o := HO.lst r1) h1
  refine ⟨⟨p, by rw [upd_same, eo], [q1, q2], rfl, s4 _ _ upd_same, fun i r e => s4 _ _ (s3 _ _ ?_)⟩, ((s1.trans s2).trans s3).trans s4⟩
  match i, e with
  | 0, e => cases e; exact s2 _ _ (by rw [upd_same, e1]; rfl)
  | 1, e => cases e; rw [upd_same, e2]; rfl
theorem mk3 {H : Hp} {q1 q2 q3 p t : Addr} {r1 r2 r3 : List V} {vo : V} {P : Nat → Nat → Nat} {o : Nat} (h1 : H q1 = none) (h2 : upd H q1 (.lst r1) q2 = none) (h3 : upd (upd H q1 (.lst r1)) q2 (.lst r2) q3 = none)
    (h4 : upd (upd (upd H q1 (.lst r1)) q2 (.lst r2)) q3 (.lst r3) p = none) (h5 : upd (upd (upd (upd H q1 (.lst r1)) q2 (.lst r2)) q3 (.lst r3)) p (.lst [.ref q1, .ref q2, .ref q3]) t = none) (eo : vo = .int (o : Nat)) (e1 : r1 = rowV 3 (P 0)) (e2 : r2 = rowV 3 (P 1)) (e3 : r3 = rowV 3 (P 2)) :
    MonAt (upd (upd (upd (upd (upd H q1 (.lst r1)) q2 (.lst r2)) q3 (.lst r3)) p (.lst [.ref q1, .ref q2, .ref q3])) t (.tup [.ref p, vo])) t 3 P o ∧ Same H (upd (upd (upd (upd (upd H q1 (.lst r1)) q2 (.lst r2)) q3 (.lst r3)) p (.lst [.ref q1, .ref q2, .ref q3])) t (.tup [.ref p, vo])) := by
  have s5 := same_upd (o := HO.tup [V.ref p, vo]) h5
  have s4 := same_upd (o := HO.lst [V.ref q1, V.ref q2, V.ref q3]) h4
  have s3 := same_upd (o := HO.lst r3) h3
  have s2 := same_upd (o := HO.lst r2) h2
  have s1 := same_upd (o := HO.lst r1) h1
  refine ⟨⟨p, by rw [upd_same, eo], [q1, q2, q3], rfl, s5 _ _ upd_same, fun i r e => s5 _ _ (s4 _ _ ?_)⟩, (((s1.trans s2).trans s3).trans s4).trans s5⟩
  match i, e with
  | 0, e => cases e; exact s3 _ _ (s2 _ _ (by rw [upd_same, e1]; rfl))
  | 1, e => cases e; exact s3 _ _ (by rw [upd_same, e2]; rfl)
  | 2, e => cases e; rw [upd_same, e3]; rfl
theorem mo_of {n o : Nat} {P : Nat → Nat → Nat} (on : o < n) (pn : ∀ a, a < n → ∀ b, b < n → P a b < n) (om : ∀ a, a < n → P o a = a ∧ P a o = a) (as : ∀ a, a < n → ∀ b, b < n → ∀ c, c < n → P (P a b) c = P a (P b c)) : Mo n P o :=
  ⟨on, fun a b ha hb => pn a ha b hb, om, fun a b c ha hb hc => as a ha b hb c hc⟩
def spMon : Sp := fun vs H Q _ => ∃ (h c : Addr), vs = [.ref h] ∧ HandAt H h c ∧ ∀ (t : Addr) (n : Nat) (P : Nat → Nat → Nat) (o : Nat) (H' : Hp), HandAt H' h c → Kx h H H' → MonAt H' t n P o → 2 ≤ n → n ≤ 3 → Mo n P o → Q (.ref t) H'
section
variable {P : Program} {w : World} {K : PySem.W.Frag} {mg : Str → Option Value} {base : Heap}
theorem ok_law_monoid (T : Top K mg) : FnOk P w K mg base CX0 2 T.f_law_monoid T.fd_law_monoid ["hand"] spMon := by
  refine T.F_law_monoid.ok sc_law_monoid (fun vs H Q E h => ?_) (fun cdv A outer s H vs Q E hr h => ?_)
  · obtain ⟨h, c, rfl, _⟩ := h; rfl
  · obtain ⟨h, c, rfl, hT, k⟩ := h
    refine ⟨_, (pss_cons (ps_set (i := 1) sc_law_monoid.nd rfl (Or.inl rfl) (pe_lst (pa_cons (pe_tup (pa_cons (pe_lst (pa_cons (pe_lst (pa_cons pe_int (pa_cons pe_int pa_nil))) (pa_cons (pe_lst (pa_cons pe_int (pa_cons pe_int pa_nil))) pa_nil))) (pa_cons pe_int pa_nil))) (pa_cons (pe_tup (pa_cons (pe_lst (pa_cons (pe_lst (pa_cons pe_int (pa_cons pe_int pa_nil))) (pa_cons (pe_lst (pa_cons pe_int (pa_cons pe_int pa_nil))) pa_nil))) (pa_cons pe_int pa_nil))) (pa_cons (pe_tup (pa_cons (pe_lst (pa_cons (pe_lst (pa_cons pe_int (pa_cons pe_int pa_nil))) (pa_cons (pe_lst (pa_cons pe_int (pa_cons pe_int pa_nil))) pa_nil))) (pa_cons pe_int pa_nil))) pa_nil)))))
 (pss_cons (ps_set (i := 1) sc_law_monoid.nd rfl (Or.inl rfl) (pe_op op_cat (pv 1) (pe_lst (pa_cons (pe_tup (pa_cons (pe_lst (pa_cons (pe_lst (pa_cons pe_int (pa_cons pe_int (pa_cons pe_int pa_nil)))) (pa_cons (pe_lst (pa_cons pe_int (pa_cons pe_int (pa_cons pe_int pa_nil)))) (pa_cons (pe_lst (pa_cons pe_int (pa_cons pe_int (pa_cons pe_int pa_nil)))) pa_nil)))) (pa_cons pe_int pa_nil))) (pa_cons (pe_tup (pa_cons (pe_lst (pa_cons (pe_lst (pa_cons pe_int (pa_cons pe_int (pa_cons pe_int pa_nil)))) (pa_cons (pe_lst (pa_cons pe_int (pa_cons pe_int (pa_cons pe_int pa_nil)))) (pa_cons (pe_lst (pa_cons pe_int (pa_cons pe_int (pa_cons pe_int pa_nil)))) pa_nil)))) (pa_cons pe_int pa_nil))) pa_nil)))))
 (pss_cons (ps_set (i := 1) sc_law_monoid.nd rfl (Or.inl rfl) (pe_op op_cat (pv 1) (pe_lst (pa_cons (pe_tup (pa_cons (pe_lst (pa_cons (pe_lst (pa_cons pe_int (pa_cons pe_int (pa_cons pe_int pa_nil)))) (pa_cons (pe_lst (pa_cons pe_int (pa_cons pe_int (pa_cons pe_int pa_nil)))) (pa_cons (pe_lst (pa_cons pe_int (pa_cons pe_int (pa_cons pe_int pa_nil)))) pa_nil)))) (pa_cons pe_int pa_nil))) (pa_cons (pe_tup (pa_cons (pe_lst (pa_cons (pe_lst (pa_cons pe_int (pa_cons pe_int (pa_cons pe_int pa_nil)))) (pa_cons (pe_lst (pa_cons pe_int (pa_cons pe_int (pa_cons pe_int pa_nil)))) (pa_cons (pe_lst (pa_cons pe_int (pa_cons pe_int (pa_cons pe_int pa_nil)))) pa_nil)))) (pa_cons pe_int pa_nil))) pa_nil)))))
 (pss_one (ps_ret (pe_ix ix_list (pv 1) (pe_call (ok_law_draw T) (hr.mono (by decide)) (by rfl) T.g_law_draw T.F_law_draw.kp T.b_law_draw .nil pass0 (pa_cons (pv 0) (pa_cons pe_int pa_nil))) (fun _ _ => rfl))))))), ?_⟩
    walk_at "tx"
    have sH : Same H H := Same.refl _
    refine ⟨by show 2 ≤ sizeLine; decide, fun q0_0 hq0_0 => ?_⟩
    walk_at "tx"
    refine ⟨by show 2 ≤ sizeLine; decide, fun q0_1 hq0_1 => ?_⟩
    walk_at "tx"
    refine ⟨by show 2 ≤ sizeLine; decide, fun p0 hp0 => ?_⟩
    walk_at "tx"
    refine ⟨by show 2 ≤ sizeLine; decide, fun t0 ht0 => ?_⟩
    obtain ⟨m0, s0⟩ := mk2 (P := Lt [[0, 1], [1, 1]]) (o := 0) hq0_0 hq0_1 hp0 ht0 rfl rfl rfl
    clear hq0_0 hq0_1 hp0 ht0
    replace sH := sH.trans s0
    generalize upd (upd (upd (upd H q0_0 (.lst [.int 0, .int 1])) q0_1 (.lst [.int 1, .int 1])) p0 (.lst [.ref q0_0, .ref q0_1])) t0 (.tup [.ref p0, .int 0]) = H1 at *
    clear s0
    walk_at "tx"
    refine ⟨by show 2 ≤ sizeLine; decide, fun q1_0 hq1_0 => ?_⟩
    walk_at "tx"
    refine ⟨by show 2 ≤ sizeLine; decide, fun q1_1 hq1_1 => ?_⟩
    walk_at "tx"
    refine ⟨by show 2 ≤ sizeLine; decide, fun p1 hp1 => ?_⟩
    walk_at "tx"
    refine ⟨by show 2 ≤ sizeLine; decide, fun t1 ht1 => ?_⟩
    obtain ⟨m1, s1⟩ := mk2 (P := Lt [[0, 1], [1, 0]]) (o := 0) hq1_0 hq1_1 hp1 ht1 rfl rfl rfl
    clear hq1_0 hq1_1 hp1 ht1
    replace m0 := m0.same s1
    replace sH := sH.trans s1
    generalize upd (upd (upd (upd H1 q1_0 (.lst [.int 0, .int 1])) q1_1 (.lst [.int 1, .int 0])) p1 (.lst [.ref q1_0, .ref q1_1])) t1 (.tup [.ref p1, .int 0]) = H2 at *
    clear s1
    walk_at "tx"
    refine ⟨by show 2 ≤ sizeLine; decide, fun q2_0 hq2_0 => ?_⟩
    walk_at "tx"
    refine ⟨by show 2 ≤ sizeLine; decide, fun q2_1 hq2_1 => ?_⟩
    walk_at "tx"
    refine ⟨by show 2 ≤ sizeLine; decide, fun p2 hp2 => ?_⟩
    walk_at "tx"
    refine ⟨by show 2 ≤ sizeLine; decide, fun t2 ht2 => ?_⟩
    obtain ⟨m2, s2⟩ := mk2 (P := Lt [[0, 0], [0, 1]]) (o := 1) hq2_0 hq2_1 hp2 ht2 rfl rfl rfl
    clear hq2_0 hq2_1 hp2 ht2
    replace m0 := m0.same s2
    replace m1 := m1.same s2
    replace sH := sH.trans s2
    generalize upd (upd (upd (upd H2 q2_0 (.lst [.int 0, .int 0])) q2_1 (.lst [.int 0, .int 1])) p2 (.lst [.ref q2_0, .ref q2_1])) t2 (.tup [.ref p2, .int 1]) = H3 at *
    clear s2
    walk_at "tx"
    refine ⟨by show 3 ≤ sizeLine; decide, fun l0 hl0 => ?_⟩
    have sl0 := same_upd (o := HO.lst [.ref t0, .ref t1, .ref t2]) hl0
    have el0 : upd H3 l0 (.lst [.ref t0, .ref t1, .ref t2]) l0 = some (.lst [.ref t0, .ref t1, .ref t2]) := upd_same
    replace m0 := m0.same sl0
    replace m1 := m1.same sl0
    replace m2 := m2.same sl0
    replace sH := sH.trans sl0
    generalize upd H3 l0 (.lst [.ref t0, .ref t1, .ref t2]) = H4 at *
    clear sl0 hl0
    walk_at "tx"
    refine ⟨by show 3 ≤ sizeLine; decide, fun q3_0 hq3_0 => ?_⟩
    walk_at "tx"
    refine ⟨by show 3 ≤ sizeLine; decide, fun q3_1 hq3_1 => ?_⟩
    walk_at "tx"
    refine ⟨by show 3 ≤ sizeLine; decide, fun q3_2 hq3_2 => ?_⟩
    walk_at "tx"
    refine ⟨by show 3 ≤ sizeLine; decide, fun p3 hp3 => ?_⟩
    walk_at "tx"
    refine ⟨by show 2 ≤ sizeLine; decide, fun t3 ht3 => ?_⟩
    obtain ⟨m3, s3⟩ := mk3 (P := Lt [[0, 1, 2], [1, 1, 1], [2, 2, 2]]) (o := 0) hq3_0 hq3_1 hq3_2 hp3 ht3 rfl rfl rfl rfl
    clear hq3_0 hq3_1 hq3_2 hp3 ht3
    replace m0 := m0.same s3
    replace m1 := m1.same s3
    replace m2 := m2.same s3
    replace el0 := s3 _ _ el0
    replace sH := sH.trans s3
    generalize upd (upd (upd (upd (upd H4 q3_0 (.lst [.int 0, .int 1, .int 2])) q3_1 (.lst [.int 1, .int 1, .int 1])) q3_2 (.lst [.int 2, .int 2, .int 2])) p3 (.lst [.ref q3_0, .ref q3_1, .ref q3_2])) t3 (.tup [.ref p3, .int 0]) = H5 at *
    clear s3
    walk_at "tx"
    refine ⟨by show 3 ≤ sizeLine; decide, fun q4_0 hq4_0 => ?_⟩
    walk_at "tx"
    refine ⟨by show 3 ≤ sizeLine; decide, fun q4_1 hq4_1 => ?_⟩
    walk_at "tx"
    refine ⟨by show 3 ≤ sizeLine; decide, fun q4_2 hq4_2 => ?_⟩
    walk_at "tx"
    refine ⟨by show 3 ≤ sizeLine; decide, fun p4 hp4 => ?_⟩
    walk_at "tx"
    refine ⟨by show 2 ≤ sizeLine; decide, fun t4 ht4 => ?_⟩
    obtain ⟨m4, s4⟩ := mk3 (P := Lt [[0, 1, 2], [1, 1, 2], [2, 1, 2]]) (o := 0) hq4_0 hq4_1 hq4_2 hp4 ht4 rfl rfl rfl rfl
    clear hq4_0 hq4_1 hq4_2 hp4 ht4
    replace m0 := m0.same s4
    replace m1 := m1.same s4
    replace m2 := m2.same s4
    replace m3 := m3.same s4
    replace el0 := s4 _ _ el0
    replace sH := sH.trans s4
    generalize upd (upd (upd (upd (upd H5 q4_0 (.lst [.int 0, .int 1, .int 2])) q4_1 (.lst [.int 1, .int 1, .int 2])) q4_2 (.lst [.int 2, .int 1, .int 2])) p4 (.lst [.ref q4_0, .ref q4_1, .ref q4_2])) t4 (.tup [.ref p4, .int 0]) = H6 at *
    clear s4
    walk_at "tx"
    refine ⟨by show 2 ≤ sizeLine; decide, fun l1 hl1 => ?_⟩
    have sl1 := same_upd (o := HO.lst [.ref t3, .ref t4]) hl1
    have el1 : upd H6 l1 (.lst [.ref t3, .ref t4]) l1 = some (.lst [.ref t3, .ref t4]) := upd_same
    replace m0 := m0.same sl1
    replace m1 := m1.same sl1
    replace m2 := m2.same sl1
    replace m3 := m3.same sl1
    replace m4 := m4.same sl1
    replace el0 := sl1 _ _ el0
    replace sH := sH.trans sl1
    generalize upd H6 l1 (.lst [.ref t3, .ref t4]) = H7 at *
    clear sl1 hl1
    refine ⟨l0, l1, _, _, rfl, rfl, el0, el1, by show 5 ≤ sizeLine; decide, fun z1 hz1 => ?_⟩
    have sz1 := same_upd (o := HO.lst [.ref t0, .ref t1, .ref t2, .ref t3, .ref t4]) hz1
    have ez1 : upd H7 z1 (.lst [.ref t0, .ref t1, .ref t2, .ref t3, .ref t4]) z1 = some (.lst [.ref t0, .ref t1, .ref t2, .ref t3, .ref t4]) := upd_same
    change _ at sz1
    replace m0 := m0.same sz1
    replace m1 := m1.same sz1
    replace m2 := m2.same sz1
    replace m3 := m3.same sz1
    replace m4 := m4.same sz1
    replace sH := sH.trans sz1
    simp only [List.cons_append, List.nil_append]
    generalize upd H7 z1 (.lst [.ref t0, .ref t1, .ref t2, .ref t3, .ref t4]) = H8 at *
    clear sz1 hz1 el1 el0
    walk_at "tx"
    refine ⟨by show 3 ≤ sizeLine; decide, fun q5_0 hq5_0 => ?_⟩
    walk_at "tx"
    refine ⟨by show 3 ≤ sizeLine; decide, fun q5_1 hq5_1 => ?_⟩
    walk_at "tx"
    refine ⟨by show 3 ≤ sizeLine; decide, fun q5_2 hq5_2 => ?_⟩
    walk_at "tx"
    refine ⟨by show 3 ≤ sizeLine; decide, fun p5 hp5 => ?_⟩
    walk_at "tx"
    refine ⟨by show 2 ≤ sizeLine; decide, fun t5 ht5 => ?_⟩
    obtain ⟨m5, s5⟩ := mk3 (P := Lt [[0, 0, 0], [0, 1, 2], [2, 2, 2]]) (o := 1) hq5_0 hq5_1 hq5_2 hp5 ht5 rfl rfl rfl rfl
    clear hq5_0 hq5_1 hq5_2 hp5 ht5
    replace m0 := m0.same s5
    replace m1 := m1.same s5
    replace m2 := m2.same s5
    replace m3 := m3.same s5
    replace m4 := m4.same s5
    replace ez1 := s5 _ _ ez1
    replace sH := sH.trans s5
    generalize upd (upd (upd (upd (upd H8 q5_0 (.lst [.int 0, .int 0, .int 0])) q5_1 (.lst [.int 0, .int 1, .int 2])) q5_2 (.lst [.int 2, .int 2, .int 2])) p5 (.lst [.ref q5_0, .ref q5_1, .ref q5_2])) t5 (.tup [.ref p5, .int 1]) = H9 at *
    clear s5
    walk_at "tx"
    refine ⟨by show 3 ≤ sizeLine; decide, fun q6_0 hq6_0 => ?_⟩
    walk_at "tx"
    refine ⟨by show 3 ≤ sizeLine; decide, fun q6_1 hq6_1 => ?_⟩
    walk_at "tx"
    refine ⟨by show 3 ≤ sizeLine; decide, fun q6_2 hq6_2 => ?_⟩
    walk_at "tx"
    refine ⟨by show 3 ≤ sizeLine; decide, fun p6 hp6 => ?_⟩
    walk_at "tx"
    refine ⟨by show 2 ≤ sizeLine; decide, fun t6 ht6 => ?_⟩
    obtain ⟨m6, s6⟩ := mk3 (P := Lt [[0, 1, 2], [1, 2, 0], [2, 0, 1]]) (o := 0) hq6_0 hq6_1 hq6_2 hp6 ht6 rfl rfl rfl rfl
    clear hq6_0 hq6_1 hq6_2 hp6 ht6
    replace m0 := m0.same s6
    replace m1 := m1.same s6
    replace m2 := m2.same s6
    replace m3 := m3.same s6
    replace m4 := m4.same s6
    replace m5 := m5.same s6
    replace ez1 := s6 _ _ ez1
    replace sH := sH.trans s6
    generalize upd (upd (upd (upd (upd H9 q6_0 (.lst [.int 0, .int 1, .int 2])) q6_1 (.lst [.int 1, .int 2, .int 0])) q6_2 (.lst [.int 2, .int 0, .int 1])) p6 (.lst [.ref q6_0, .ref q6_1, .ref q6_2])) t6 (.tup [.ref p6, .int 0]) = H10 at *
    clear s6
    walk_at "tx"
    refine ⟨by show 2 ≤ sizeLine; decide, fun l2 hl2 => ?_⟩
    have sl2 := same_upd (o := HO.lst [.ref t5, .ref t6]) hl2
    have el2 : upd H10 l2 (.lst [.ref t5, .ref t6]) l2 = some (.lst [.ref t5, .ref t6]) := upd_same
    replace m0 := m0.same sl2
    replace m1 := m1.same sl2
    replace m2 := m2.same sl2
    replace m3 := m3.same sl2
    replace m4 := m4.same sl2
    replace m5 := m5.same sl2
    replace m6 := m6.same sl2
    replace ez1 := sl2 _ _ ez1
    replace sH := sH.trans sl2
    generalize upd H10 l2 (.lst [.ref t5, .ref t6]) = H11 at *
    clear sl2 hl2
    refine ⟨z1, l2, _, _, rfl, rfl, ez1, el2, by show 7 ≤ sizeLine; decide, fun z2 hz2 => ?_⟩
    have sz2 := same_upd (o := HO.lst [.ref t0, .ref t1, .ref t2, .ref t3, .ref t4, .ref t5, .ref t6]) hz2
    have ez2 : upd H11 z2 (.lst [.ref t0, .ref t1, .ref t2, .ref t3, .ref t4, .ref t5, .ref t6]) z2 = some (.lst [.ref t0, .ref t1, .ref t2, .ref t3, .ref t4, .ref t5, .ref t6]) := upd_same
    change _ at sz2
    replace m0 := m0.same sz2
    replace m1 := m1.same sz2
    replace m2 := m2.same sz2
    replace m3 := m3.same sz2
    replace m4 := m4.same sz2
    replace m5 := m5.same sz2
    replace m6 := m6.same sz2
    replace sH := sH.trans sz2
    simp only [List.cons_append, List.nil_append]
    generalize upd H11 z2 (.lst [.ref t0, .ref t1, .ref t2, .ref t3, .ref t4, .ref t5, .ref t6]) = H12 at *
    clear sz2 hz2 el2 ez1
    walk_at "tx"
    have hT2 := hT.same sH
    refine ⟨h, c, 7, rfl, hT2, by decide, log2_lt (by decide), fun r Hz r0 r7 hTz bz => ?_⟩
    obtain ⟨r, rfl⟩ := Int.eq_ofNat_of_zero_le r0
    have kz := But.kx bz
    have ez := kz _ _ (fun z => by
      obtain ⟨cs, p, q', m, kk, e1, _⟩ := hT2
      rw [z, e1] at ez2
      cases ez2) ez2
    obtain ⟨t, n, P, o, et, mt, n2, n3, mo⟩ : ∃ t n P o, [V.ref t0, V.ref t1, V.ref t2, V.ref t3, V.ref t4, V.ref t5, V.ref t6][r]? = some (V.ref t) ∧ MonAt Hz t n P o ∧ 2 ≤ n ∧ n ≤ 3 ∧ Mo n P o := by
      have : r < 7 := by omega
      match r, this with
      | 0, _ => exact ⟨t0, 2, _, 0, rfl, m0.kx kz hT2 (by omega), by omega, by omega, mo_of (by decide) (by decide) (by decide) (by decide)⟩
      | 1, _ => exact ⟨t1, 2, _, 0, rfl, m1.kx kz hT2 (by omega), by omega, by omega, mo_of (by decide) (by decide) (by decide) (by decide)⟩
      | 2, _ => exact ⟨t2, 2, _, 1, rfl, m2.kx kz hT2 (by omega), by omega, by omega, mo_of (by decide) (by decide) (by decide) (by decide)⟩
      | 3, _ => exact ⟨t3, 3, _, 0, rfl, m3.kx kz hT2 (by omega), by omega, by omega, mo_of (by decide) (by decide) (by decide) (by decide)⟩
      | 4, _ => exact ⟨t4, 3, _, 0, rfl, m4.kx kz hT2 (by omega), by omega, by omega, mo_of (by decide) (by decide) (by decide) (by decide)⟩
      | 5, _ => exact ⟨t5, 3, _, 1, rfl, m5.kx kz hT2 (by omega), by omega, by omega, mo_of (by decide) (by decide) (by decide) (by decide)⟩
      | 6, _ => exact ⟨t6, 3, _, 0, rfl, m6.kx kz hT2 (by omega), by omega, by omega, mo_of (by decide) (by decide) (by decide) (by decide)⟩
    walk_at "tx"
    refine RD.d_ixL (SqL.of ez) (atI_nat et) ?_
    exact k t n P o Hz hTz ((Same.kx sH).trans kz) mt n2 n3 mo
end

/-! ### lots of things -/
open OQ (TabX RowX SeqAt)
open RK (Gd Mo lotP Lb)
theorem bit_odd {a x : Nat} : (((a / 2 ^ x % 2 : Nat) : Int) = 1) ↔ a.testBit x = true := by
  rw [Nat.testBit_eq_decide_div_mod_eq, decide_eq_true_eq]
  omega
theorem shr_nat {a i : Nat} : V.int ((a : Int) / 2 ^ ((0 : Int) + i).toNat) = V.int ((a / 2 ^ i : Nat) : Int) := by
  rw [Int.zero_add, Int.toNat_natCast, Int.natCast_ediv, Int.natCast_pow]; rfl
theorem bor {f p : Nat} : Builtin.bitOr (f : Int) (1 * 2 ^ ((p : Nat) : Int).toNat) = ((f ||| 2 ^ p : Nat) : Int) := by
  have e : (1 : Int) * 2 ^ ((p : Nat) : Int).toNat = ((2 ^ p : Nat) : Int) := by rw [Int.one_mul, Int.toNat_natCast, Int.natCast_pow]; rfl
  rw [e, bitOr_nn (Int.natCast_nonneg _) (Int.natCast_nonneg _), Int.toNat_natCast, Int.toNat_natCast]
/-- what is found while the pairs behind (i, j) are still to come -/
def Lp (n : Nat) (P : Nat → Nat → Nat) (a c i j f : Nat) : Prop := ∀ z, f.testBit z = true ↔ ∃ x y, (x < i ∨ (x = i ∧ y < j)) ∧ x < n ∧ y < n ∧ a.testBit x = true ∧ c.testBit y = true ∧ P x y = z
theorem Lp.zero {n : Nat} {P : Nat → Nat → Nat} {a c : Nat} : Lp n P a c 0 0 0 := fun z => by
  constructor
  · intro h; simp at h
  · rintro ⟨x, y, h, _⟩; omega
theorem Lp.next {n : Nat} {P : Nat → Nat → Nat} {a c i f : Nat} (h : Lp n P a c i n f) : Lp n P a c (i + 1) 0 f := fun z => by
  rw [h z]
  constructor
  · rintro ⟨x, y, h1, h2, h3, h4⟩; exact ⟨x, y, by omega, h2, h3, h4⟩
  · rintro ⟨x, y, h1, h2, h3, h4⟩; exact ⟨x, y, by omega, h2, h3, h4⟩
theorem Lp.end {n : Nat} {P : Nat → Nat → Nat} {a c f : Nat} (h : Lp n P a c n 0 f) : f = lotP n P a c := RK.bits_eq fun z => by
  rw [h z, RK.lot_bit]
  constructor
  · rintro ⟨x, y, h1, h2, h3, h4⟩; exact ⟨x, y, h2, h3, h4⟩
  · rintro ⟨x, y, h2, h3, h4⟩; exact ⟨x, y, by omega, h2, h3, h4⟩
theorem Lp.no {n : Nat} {P : Nat → Nat → Nat} {a c i j f : Nat} (h : Lp n P a c i j f) (b : ¬ (a.testBit i = true ∧ c.testBit j = true)) : Lp n P a c i (j + 1) f := fun z => by
  rw [h z]
  constructor
  · rintro ⟨x, y, h1, h2, h3, h4⟩; exact ⟨x, y, by omega, h2, h3, h4⟩
  · rintro ⟨x, y, h1, h2, h3, h4⟩
    refine ⟨x, y, ?_, h2, h3, h4⟩
    by_cases e : x = i ∧ y = j
    · exact absurd (by rw [← e.1, ← e.2]; exact ⟨h4.1, h4.2.1⟩) b
    · omega
theorem Lp.yes {n : Nat} {P : Nat → Nat → Nat} {a c i j f : Nat} (h : Lp n P a c i j f) (hi : i < n) (hj : j < n) (b1 : a.testBit i = true) (b2 : c.testBit j = true) : Lp n P a c i (j + 1) (f ||| 2 ^ P i j) := fun z => by
  rw [Nat.testBit_or, Bool.or_eq_true, h z, Nat.testBit_two_pow, decide_eq_true_eq]
  constructor
  · rintro (⟨x, y, h1, h2, h3, h4⟩ | e)
    · exact ⟨x, y, by omega, h2, h3, h4⟩
    · exact ⟨i, j, by omega, hi, hj, b1, b2, e⟩
  · rintro ⟨x, y, h1, h2, h3, h4⟩
    by_cases e : x = i ∧ y = j
    · right; rw [← e.1, ← e.2]; exact h4.2.2
    · exact .inl ⟨x, y, by omega, h2, h3, h4⟩
def spLot : Sp := fun vs H Q _ => ∃ (b : Addr) (n a c : Nat) (P : Nat → Nat → Nat), vs = [.ref b, .int a, .int c] ∧ TabXL H b n P ∧ n ≤ 4 ∧ (∀ x y, x < n → y < n → P x y < n) ∧ Q (.int (lotP n P a c : Nat)) H
section
variable {P : Program} {w : World} {K : PySem.W.Frag} {mg : Str → Option Value} {base : Heap}
theorem ok_law_lot (T : Top K mg) : FnOk P w K mg base CX0 1 T.f_law_lot T.fd_law_lot ["products", "one", "other"] spLot := by
  refine T.F_law_lot.ok sc_law_lot (fun vs H Q E h => ?_) (fun cdv A outer s H vs Q E hr h => ?_)
  · obtain ⟨b, n, a, c, P, rfl, _⟩ := h; rfl
  · obtain ⟨b, n, a, c, P, rfl, tb, n4, pn, k⟩ := h
    obtain ⟨rs, len, eb, rows⟩ := id tb
    refine ⟨_, (pss_cons (ps_set (i := 3) sc_law_lot.nd rfl (Or.inl rfl) pe_int)
 (pss_cons (ps_set (i := 4) sc_law_lot.nd rfl (Or.inl rfl) (pe_callB RD.c_len (by rfl) T.n_len (by decide +kernel) (pa_cons (pv 0) pa_nil)))
 (pss_cons (ps_for PassesOwn.never rfl (pi_range1 (by rfl) T.n_range (pa_cons (pv 4) pa_nil)) (pg_name (i := 5) sc_law_lot.nd rfl (Or.inl rfl))
 (pss_one (ps_for PassesOwn.never rfl (pi_range1 (by rfl) T.n_range (pa_cons (pv 4) pa_nil)) (pg_name (i := 6) sc_law_lot.nd rfl (Or.inl rfl))
 (pss_one (ps_if (PW.pt (pw_and (pt_cmpR op_eq (pe_op op_odd (pe_op op_shr (pv 1) (pv 5)) pe_int) pe_int (nomark _)) (pw_and1 (pt_cmpR op_eq (pe_op op_odd (pe_op op_shr (pv 2) (pv 6)) pe_int) pe_int (nomark _)))))
 (pss_one (ps_set (i := 3) sc_law_lot.nd rfl (Or.inl rfl) (pe_op op_or (pv 3) (pe_op op_shl pe_int (pe_ix ix_list (pe_ix ix_list (pv 0) (pv 5) (fun _ _ => rfl)) (pv 6) (fun _ _ => rfl))))))
 pss_nil)))))
 (pss_one (ps_ret (pv 3)))))), ?_⟩
    walk_at "tx"
    rw [List.length_map, len]
    refine ⟨n, rfl, by omega, by omega, ?_⟩
    refine RD.f_range (lo := 0) (n := (n : Int).toNat) (fun i σ' H' => H' = H ∧ ∃ (f : Nat) (v5 v6 : Option V), σ' = [some (.ref b), some (.int a), some (.int c), some (.int f), some (.int n), v5, v6] ∧ Lp n P a c i 0 f) ⟨rfl, 0, _, _, rfl, .zero⟩ ?_ ?_
    · rintro i σ' H' hi' ⟨rfl, f, v5, v6, rfl, lp⟩
      have hi : i < n := by omega
      walk_at "tx"
      refine ⟨n, rfl, by omega, by omega, ?_⟩
      refine RD.f_range (lo := 0) (n := (n : Int).toNat) (fun j σ' H'' => H'' = H' ∧ ∃ (f : Nat) (v6 : Option V), σ' = [some (.ref b), some (.int a), some (.int c), some (.int f), some (.int n), some (.int (0 + i)), v6] ∧ Lp n P a c i j f) ⟨rfl, f, _, rfl, lp⟩ ?_ ?_
      · rintro j σ' H'' hj' ⟨rfl, f, v6, rfl, lp⟩
        have hj : j < n := by omega
        walk_at "tx"
        refine ⟨_, _, rfl, rfl, by omega, ?_⟩
        walk_at "tx"
        refine ⟨a / 2 ^ i, shr_nat, rfl, ?_⟩
        walk_at "tx"
        refine RD.iteD (fun c1 => ?_) (fun c1 => ?_)
        · have b1 := bit_odd.mp c1
          walk_at "tx"
          refine ⟨_, _, rfl, rfl, by omega, ?_⟩
          walk_at "tx"
          refine ⟨c / 2 ^ j, shr_nat, rfl, ?_⟩
          walk_at "tx"
          refine RD.iteD (fun c2 => ?_) (fun c2 => ?_)
          · have b2 := bit_odd.mp c2
            obtain ⟨r, ha, hb⟩ : ∃ r, atI (rs.map V.ref) ((0 : Int) + i) = some (.ref r) ∧ H'' r = some (.lst ((List.range n).map fun j => V.int (P i j : Nat))) := ⟨rs[i], by rw [Int.zero_add]; exact atI_nat (by rw [List.getElem?_map, List.getElem?_eq_getElem (by omega)]; rfl), rows i _ (List.getElem?_eq_getElem (by omega))⟩
            walk_at "tx"
            refine RD.d_ixL (SqL.of eb) ha ?_
            walk_at "tx"
            refine RD.d_ixL (SqL.of hb) (by rw [Int.zero_add]; exact atI_nat (by rw [List.getElem?_map, List.getElem?_range hj]; rfl)) ?_
            walk_at "tx"
            have pl := pn i j hi hj
            refine ⟨1, ((P i j : Nat) : Int), rfl, rfl, ⟨by omega, by omega, by decide⟩, ?_⟩
            walk_at "tx"
            rw [bor]
            exact ⟨rfl, _, _, rfl, lp.yes hi hj b1 b2⟩
          · have b2 := fun z => c2 (bit_odd.mpr z)
            walk_at "tx"
            exact ⟨rfl, f, _, rfl, lp.no fun z => b2 z.2⟩
        · have b1 := fun z => c1 (bit_odd.mpr z)
          walk_at "tx"
          exact ⟨rfl, f, _, rfl, lp.no fun z => b1 z.1⟩
      · rintro σ' H'' ⟨rfl, f, v6, rfl, lp⟩
        rw [Int.toNat_natCast] at lp
        exact ⟨rfl, f, _, _, rfl, lp.next⟩
    · rintro σ' H' ⟨rfl, f, v5, v6, rfl, lp⟩
      rw [Int.toNat_natCast] at lp
      walk_at "tx"
      rw [lp.end]; exact k
end

/-! ### reckonings of lots -/
open OQ (TabX RowX SeqAt)
open RK (Gd Mo lotP Lb)
theorem shl1 {n : Nat} : (1 : Int) * 2 ^ ((n : Nat) : Int).toNat = ((2 ^ n : Nat) : Int) := by rw [Int.one_mul, Int.toNat_natCast, Int.natCast_pow]; rfl
theorem rI_sh {n : Nat} {H : Hp} {Q : VK} (h : n ≤ 1000000) (k : Q (.int ((2 ^ n : Nat) : Int)) H) : rI CPow (fun i j => .int (i * 2 ^ j.toNat)) (.int 1) (.int ((n : Nat) : Int)) H Q := ⟨1, ((n : Nat) : Int), rfl, rfl, ⟨by omega, by omega, by decide⟩, by show Q (.int (1 * 2 ^ ((n : Nat) : Int).toNat)) H; rw [shl1]; exact k⟩
def spLts : Sp := fun vs H Q _ => ∃ (b : Addr) (n o : Nat) (P : Nat → Nat → Nat), vs = [.ref b, .int o] ∧ TabXL H b n P ∧ n ≤ 3 ∧ Mo n P o ∧ ∀ t H', Same H H' → ToldL H' t (2 ^ n) (fun a b => a ||| b) (lotP n P) 0 (2 ^ o) → Q (.ref t) H'
section
variable {P : Program} {w : World} {K : PySem.W.Frag} {mg : Str → Option Value} {base : Heap}
theorem ok_law_lots (T : Top K mg) : FnOk P w K mg base CX0 2 T.f_law_lots T.fd_law_lots ["products", "one"] spLts := by
  refine T.F_law_lots.ok sc_law_lots (fun vs H Q E h => ?_) (fun cdv A outer s H vs Q E hr h => ?_)
  · obtain ⟨b, n, o, P, rfl, _⟩ := h; rfl
  · obtain ⟨b, n, o, P, rfl, tb, n3, mo, k⟩ := h
    refine ⟨_, (pss_cons (ps_set (i := 2) sc_law_lots.nd rfl (Or.inr rfl) (pe_op op_shl pe_int (pe_callB RD.c_len (by rfl) T.n_len (by decide +kernel) (pa_cons (pv 0) pa_nil))))
 (pss_cons (ps_setLc (i := 3) (own := [("a", 4)]) (g := (gName 4)) (tt := tYes) rfl sc_law_lots.nd rfl rfl (sw_true rfl rfl rfl (by decide +kernel)) (pi_range1 (by rfl) T.n_range (pa_cons (pv 2) pa_nil)) (blkOk_by (own := [("a", 4)]) (N := ["products", "one", "size", "joins", "a", "b"]) (sc := defScope s_law_lots) (by decide +kernel)) (fun _ _ _ _ _ => (pg_name (i := 4) sc_law_lots.nd rfl (by first | exact Or.inl rfl | exact Or.inr rfl))) (fun _ _ _ _ _ => pts_nil) (fun _ _ _ _ _ => (pe_lc (own := [("b", 5)]) (g := (gName 5)) (tt := tYes) rfl sc_law_lots.nd (pi_range1 (by rfl) T.n_range (pa_cons (pv 2) pa_nil)) (blkOk_by (own := [("b", 5)]) (N := ["products", "one", "size", "joins", "a", "b"]) (sc := _) (by kernel_rfl)) (fun _ _ _ _ _ => (pg_name (i := 5) sc_law_lots.nd rfl (by first | exact Or.inl rfl | exact Or.inr rfl))) (fun _ _ _ _ _ => pts_nil) (fun _ _ _ _ _ => (pe_op op_or (pv 4) (pv 5))))))
 (pss_one (ps_ret (pe_lst (pa_cons (pv 3) (pa_cons (pe_lc (own := [("a", 4)]) (g := (gName 4)) (tt := tYes) rfl sc_law_lots.nd (pi_range1 (by rfl) T.n_range (pa_cons (pv 2) pa_nil)) (blkOk_by (own := [("a", 4)]) (N := ["products", "one", "size", "joins", "a", "b"]) (sc := defScope s_law_lots) (by decide +kernel)) (fun _ _ _ _ _ => (pg_name (i := 4) sc_law_lots.nd rfl (by first | exact Or.inl rfl | exact Or.inr rfl))) (fun _ _ _ _ _ => pts_nil) (fun _ _ _ _ _ => (pe_lc (own := [("b", 5)]) (g := (gName 5)) (tt := tYes) rfl sc_law_lots.nd (pi_range1 (by rfl) T.n_range (pa_cons (pv 2) pa_nil)) (blkOk_by (own := [("b", 5)]) (N := ["products", "one", "size", "joins", "a", "b"]) (sc := _) (by kernel_rfl)) (fun _ _ _ _ _ => (pg_name (i := 5) sc_law_lots.nd rfl (by first | exact Or.inl rfl | exact Or.inr rfl))) (fun _ _ _ _ _ => pts_nil) (fun _ _ _ _ _ => (pe_call (ok_law_lot T) (hr.mono (by decide)) (by rfl) T.g_law_lot T.F_law_lot.kp T.b_law_lot .nil pass0 (pa_cons (pv 0) (pa_cons (pv 4) (pa_cons (pv 5) pa_nil)))))))) (pa_cons pe_int (pa_cons (pe_op op_shl pe_int (pv 1)) pa_nil))))))))), ?_⟩
    walk_at "tx"
    refine tb.x.len ?_
    refine rI_sh (by omega) ?_
    walk_at "tx"
    have n8 : 2 ^ n ≤ 8 := Nat.pow_le_pow_right (n := 2) (by omega) n3
    walk_at "tx"
    refine ⟨((2 ^ n : Nat) : Int), rfl, Int.le_trans (by decide) (Int.natCast_nonneg _), by omega, fun D hD => ?_⟩
    refine lc_range (lo := 0) (n := ((2 ^ n : Nat) : Int).toNat) (fun i H' => Same H H' ∧ RowsN H' D (2 ^ n) i (fun a b => a ||| b)) ⟨same_upd hD, rowsN_zero⟩ ?_ ?_
    · rintro i H' hi' ⟨s1, r1⟩
      have hi : i < 2 ^ n := by omega
      walk_at "tx"
      refine ⟨((2 ^ n : Nat) : Int), rfl, Int.le_trans (by decide) (Int.natCast_nonneg _), by omega, fun D2 hD2 => ?_⟩
      refine lc_range (lo := 0) (n := ((2 ^ n : Nat) : Int).toNat) (fun j H'' => Same H' H'' ∧ H'' D2 = some (.lst ((List.range j).map fun c => V.int (((fun a b => a ||| b) i c : Nat) : Int)))) ⟨same_upd hD2, upd_same⟩ ?_ ?_
      · rintro j H'' hj' ⟨s2, eD2⟩
        have hj : j < 2 ^ n := by omega
        walk_at "tx"
        rw [Int.zero_add, Int.zero_add, bitOr_nn (Int.natCast_nonneg _) (Int.natCast_nonneg _), Int.toNat_natCast, Int.toNat_natCast]
        exact rowPutN (g := fun c => i ||| c) hD2 s2 (by omega) eD2 rfl
      · rintro H'' ⟨s2, eD2⟩
        rw [Int.toNat_natCast] at eD2
        exact rowsN_step hD s1 r1 hD2 s2 (by omega) eD2
    · rintro H' ⟨s1, r1⟩
      rw [Int.toNat_natCast] at r1
      walk_at "tx"
      have tj : TabXL H' D (2 ^ n) (fun a b => a ||| b) := rowsN_end r1
      replace tb := tb.same s1
      have s0 := s1
      clear r1 s1
      generalize H' = H3 at *
      walk_at "tx"
      refine ⟨((2 ^ n : Nat) : Int), rfl, Int.le_trans (by decide) (Int.natCast_nonneg _), by omega, fun D' hD' => ?_⟩
      refine lc_range (lo := 0) (n := ((2 ^ n : Nat) : Int).toNat) (fun i H' => Same H3 H' ∧ RowsN H' D' (2 ^ n) i (lotP n P)) ⟨same_upd hD', rowsN_zero⟩ ?_ ?_
      · rintro i H' hi' ⟨s1, r1⟩
        have hi : i < 2 ^ n := by omega
        walk_at "tx"
        refine ⟨((2 ^ n : Nat) : Int), rfl, Int.le_trans (by decide) (Int.natCast_nonneg _), by omega, fun D2 hD2 => ?_⟩
        refine lc_range (lo := 0) (n := ((2 ^ n : Nat) : Int).toNat) (fun j H'' => Same H' H'' ∧ H'' D2 = some (.lst ((List.range j).map fun c => V.int (((lotP n P) i c : Nat) : Int)))) ⟨same_upd hD2, upd_same⟩ ?_ ?_
        · rintro j H'' hj' ⟨s2, eD2⟩
          have hj : j < 2 ^ n := by omega
          walk_at "tx"
          refine ⟨b, n, i, j, P, by rw [Int.zero_add, Int.zero_add]; rfl, (tb.same s1).same s2, by omega, mo.pn, ?_⟩
          exact rowPutN (g := fun c => RK.lotP n P i c) hD2 s2 (by omega) eD2 rfl
        · rintro H'' ⟨s2, eD2⟩
          rw [Int.toNat_natCast] at eD2
          exact rowsN_step hD' s1 r1 hD2 s2 (by omega) eD2
      · rintro H' ⟨s1, r1⟩
        rw [Int.toNat_natCast] at r1
        walk_at "tx"
        have tp : TabXL H' D' (2 ^ n) (lotP n P) := rowsN_end r1
        have tj' := tj.same s1
        have on := mo.on
        refine rI_sh (by omega) ?_
        walk_at "tx"
        refine ⟨by show 4 ≤ sizeLine; decide, fun t ht => ?_⟩
        have s9 := same_upd (o := HO.lst [V.ref D, V.ref D', V.int 0, V.int ((2 ^ o : Nat) : Int)]) ht
        exact k t _ ((s0.trans s1).trans s9) ⟨D, D', upd_same, tj'.same s9, tp.same s9⟩
end

/-! ### beside, turned -/
open OQ (TabX RowX SeqAt)
open RK (Gd bes)
def spPair : Sp := fun vs H Q _ => ∃ (x y : Addr) (n m : Nat) (J J' : Nat → Nat → Nat), vs = [.ref x, .ref y] ∧ TabXL H x n J ∧ TabXL H y m J' ∧ 1 ≤ m ∧ 1 ≤ n ∧ n * m ≤ 16 ∧ ∀ p H', Same H H' → TabXL H' p (n * m) (bes m J J') → Q (.ref p) H'
theorem TabXL.row {H : Hp} {a : Addr} {n i : Nat} {f : Nat → Nat → Nat} (h : TabXL H a n f) (hi : i < n) : ∃ xs r, H a = some (.lst xs) ∧ atI xs (i : Int) = some (.ref r) ∧ H r = some (.lst ((List.range n).map fun j => V.int (f i j : Nat))) := by
  obtain ⟨rs, l, e, q⟩ := h
  have e2 : rs[i]? = some rs[i] := List.getElem?_eq_getElem (by omega)
  exact ⟨_, _, e, atI_nat (by rw [List.getElem?_map, e2]; rfl), q i _ e2⟩
theorem row_cell {n j : Nat} {g : Nat → Nat} (hj : j < n) : atI ((List.range n).map fun j => V.int (g j : Nat)) (j : Int) = some (.int (g j : Nat)) := atI_nat (by rw [List.getElem?_map, List.getElem?_range hj]; rfl)
theorem cmul16 {n m : Nat} (h1 : n ≤ 16) (h2 : m ≤ 16) : CMul (n : Int) (m : Int) := by unfold CMul; omega
theorem rI_div {a m : Nat} {H : Hp} {Q : VK} (h : 0 < m) (hm : m ≤ 16) (k : Q (.int ((a / m : Nat) : Int)) H) : rI CDivW (fun i j => .int (i / j)) (.int (0 + (a : Int))) (.int (m : Int)) H Q := ⟨0 + (a : Int), (m : Int), rfl, rfl, ⟨by omega, log2_lt (by omega)⟩, by rw [Int.natCast_ediv] at k; rw [Int.zero_add]; exact k⟩
section
variable {P : Program} {w : World} {K : PySem.W.Frag} {mg : Str → Option Value} {base : Heap}
theorem ok_law_paired (T : Top K mg) : FnOk P w K mg base CX0 1 T.f_law_paired T.fd_law_paired ["one", "other"] spPair := by
  refine T.F_law_paired.ok sc_law_paired (fun vs H Q E h => ?_) (fun cdv A outer s H vs Q E hr h => ?_)
  · obtain ⟨x, y, n, m, J, J', rfl, _⟩ := h; rfl
  · obtain ⟨x, y, n, m, J, J', rfl, tx, ty, m1, n1, nm, k⟩ := h
    refine ⟨_, (pss_cons (ps_set (i := 2) sc_law_paired.nd rfl (Or.inl rfl) (pe_callB RD.c_len (by rfl) T.n_len (by decide +kernel) (pa_cons (pv 1) pa_nil)))
 (pss_cons (ps_set (i := 3) sc_law_paired.nd rfl (Or.inl rfl) (pe_lst pa_nil))
 (pss_cons (ps_for PassesOwn.never rfl (pi_range1 (by rfl) T.n_range (pa_cons (pe_op op_mul (pe_callB RD.c_len (by rfl) T.n_len (by decide +kernel) (pa_cons (pv 0) pa_nil)) (pv 2)) pa_nil)) (pg_name (i := 4) sc_law_paired.nd rfl (Or.inl rfl))
 (pss_cons (ps_set (i := 5) sc_law_paired.nd rfl (Or.inl rfl) (pe_lst pa_nil))
 (pss_cons (ps_for PassesOwn.never rfl (pi_range1 (by rfl) T.n_range (pa_cons (pe_op op_mul (pe_callB RD.c_len (by rfl) T.n_len (by decide +kernel) (pa_cons (pv 0) pa_nil)) (pv 2)) pa_nil)) (pg_name (i := 6) sc_law_paired.nd rfl (Or.inl rfl))
 (pss_one (ps_expr (pe_bm PySem.F.plainAttrs_list PySem.F.slot_list_append PySem.F.type_list_append mt_append (pv 5) (pa_cons (pe_op op_add (pe_op op_mul (pe_ix ix_list (pe_ix ix_list (pv 0) (pe_op op_fdivW (pv 4) (pv 2)) (fun _ _ => rfl)) (pe_op op_fdivW (pv 6) (pv 2)) (fun _ _ => rfl)) (pv 2)) (pe_ix ix_list (pe_ix ix_list (pv 1) (pe_op op_mod (pe_callTy RD.c_int (by rfl) T.n_int (by decide +kernel) (pa_cons (pv 4) pa_nil)) (pv 2)) (fun _ _ => rfl)) (pe_op op_mod (pe_callTy RD.c_int (by rfl) T.n_int (by decide +kernel) (pa_cons (pv 6) pa_nil)) (pv 2)) (fun _ _ => rfl))) pa_nil)))))
 (pss_one (ps_expr (pe_bm PySem.F.plainAttrs_list PySem.F.slot_list_append PySem.F.type_list_append mt_append (pv 3) (pa_cons (pv 5) pa_nil)))))))
 (pss_one (ps_ret (pv 3)))))), ?_⟩
    have n16 : n ≤ 16 := Nat.le_trans (Nat.le_mul_of_pos_right n m1) nm
    have m16 : m ≤ 16 := Nat.le_trans (Nat.le_mul_of_pos_left m n1) nm
    walk_at "tx"
    refine ty.x.len ?_
    walk_at "tx"
    refine ⟨by show 0 ≤ sizeLine; decide, fun D hD => ?_⟩
    have r0 : RowsN (upd H D (.lst [])) D (n * m) 0 (bes m J J') := rowsN_zero
    have s0 : Same H (upd H D (.lst [])) := same_upd hD
    generalize upd H D (.lst []) = H1 at *
    walk_at "tx"
    refine (tx.same s0).x.len ?_
    walk_at "tx"
    refine ⟨((n * m : Nat) : Int), by rw [Int.natCast_mul], by omega, by omega, ?_⟩
    refine RD.f_range (lo := 0) (n := ((n * m : Nat) : Int).toNat) (fun i σ' H' => (∃ v4 v5 v6 : Option V, σ' = [some (.ref x), some (.ref y), some (.int m), some (.ref D), v4, v5, v6]) ∧ Same H H' ∧ RowsN H' D (n * m) i (bes m J J')) ⟨⟨_, _, _, rfl⟩, s0, r0⟩ ?_ ?_
    · rintro i σ' H2 hi' ⟨⟨v4, v5, v6, rfl⟩, s2, r2⟩
      have hi : i < n * m := by omega
      walk_at "tx"
      refine ⟨by show 0 ≤ sizeLine; decide, fun D2 hD2 => ?_⟩
      have s3 := same_upd (o := HO.lst []) hD2
      have e3 : upd H2 D2 (.lst []) D2 = some (.lst ((List.range 0).map fun c => V.int (bes m J J' i c : Nat))) := upd_same
      generalize upd H2 D2 (.lst []) = H3 at *
      walk_at "tx"
      refine (tx.same (s2.trans s3)).x.len ?_
      walk_at "tx"
      refine ⟨((n * m : Nat) : Int), by rw [Int.natCast_mul], by omega, by omega, ?_⟩
      refine RD.f_range (lo := 0) (n := ((n * m : Nat) : Int).toNat) (fun j σ' H' => (∃ v6 : Option V, σ' = [some (.ref x), some (.ref y), some (.int m), some (.ref D), some (.int (0 + i)), some (.ref D2), v6]) ∧ Same H2 H' ∧ H' D2 = some (.lst ((List.range j).map fun c => V.int (bes m J J' i c : Nat)))) ⟨⟨_, rfl⟩, s3, e3⟩ ?_ ?_
      · rintro j σ' H4 hj' ⟨⟨v6, rfl⟩, s4, e4⟩
        have hj : j < n * m := by omega
        have m0 : 0 < m := m1
        have di : i / m < n := Nat.div_lt_of_lt_mul (by rw [Nat.mul_comm]; exact hi)
        have dj : j / m < n := Nat.div_lt_of_lt_mul (by rw [Nat.mul_comm]; exact hj)
        have mi : i % m < m := Nat.mod_lt _ m0
        have mj : j % m < m := Nat.mod_lt _ m0
        obtain ⟨xs, r, ex, er, e5⟩ := (tx.same (s2.trans s4)).row di
        obtain ⟨ys, r', ey, er', e6⟩ := (ty.same (s2.trans s4)).row mi
        walk_at "tx"
        refine ⟨RD.tyL e4, ?_⟩
        walk_at "tx"
        refine rI_div m0 m16 ?_
        walk_at "tx"
        refine RD.d_ixL (SqL.of ex) er ?_
        walk_at "tx"
        refine rI_div m0 m16 ?_
        walk_at "tx"
        refine RD.d_ixL (SqL.of e5) (row_cell dj) ?_
        walk_at "tx"
        refine RD.d_ixL (SqL.of ey) (by rw [Int.zero_add, ← Int.natCast_emod]; exact er') ?_
        walk_at "tx"
        refine RD.d_ixL (SqL.of e6) (by rw [Int.zero_add, ← Int.natCast_emod]; exact row_cell mj) ?_
        walk_at "tx"
        obtain ⟨acc, q1, q2, q3, q4⟩ := rowPutN (g := fun c => bes m J J' i c) (v := .int ((J (i / m) (j / m) : Nat) * (m : Int) + (J' (i % m) (j % m) : Nat))) hD2 s4 (by omega) e4 (by show V.int _ = V.int ((J (i / m) (j / m) * m + J' (i % m) (j % m) : Nat) : Int); rw [Int.natCast_add, Int.natCast_mul])
        refine RD.d_app q1 q2 ?_
        exact ⟨⟨_, rfl⟩, q3, q4⟩
      · rintro σ' H4 ⟨⟨v6, rfl⟩, s4, e4⟩
        rw [Int.toNat_natCast] at e4
        obtain ⟨acc, q1, q2, q3, q4⟩ := rowsN_step hD s2 r2 hD2 s4 (by omega) e4
        walk_at "tx"
        refine ⟨RD.tyL q1, ?_⟩
        walk_at "tx"
        refine RD.d_app q1 q2 ?_
        exact ⟨⟨_, _, _, rfl⟩, q3, q4⟩
    · rintro σ' H2 ⟨⟨v4, v5, v6, rfl⟩, s2, r2⟩
      rw [Int.toNat_natCast] at r2
      walk_at "tx"
      exact k D H2 s2 (rowsN_end r2)
end

/-! ### reckonings beside one another, turned -/
open OQ (TabX RowX SeqAt)
open RK (Gd bes)
theorem nat_mad {z m z' : Nat} : (z : Int) * m + z' = ((z * m + z' : Nat) : Int) := by rw [Int.natCast_add, Int.natCast_mul]
def spBes : Sp := fun vs H Q _ => ∃ (x y : Addr) (n m : Nat) (J M J' M' : Nat → Nat → Nat) (z o z' o' : Nat), vs = [.ref x, .ref y] ∧ ToldL H x n J M z o ∧ ToldL H y m J' M' z' o' ∧ 1 ≤ m ∧ 1 ≤ n ∧ n * m ≤ 16 ∧
  ∀ t H', Same H H' → ToldL H' t (n * m) (bes m J J') (bes m M M') (z * m + z') (o * m + o') → Q (.ref t) H'
def spTrn : Sp := fun vs H Q _ => ∃ (x : Addr) (n : Nat) (J M : Nat → Nat → Nat) (z o : Nat), vs = [.ref x] ∧ ToldL H x n J M z o ∧ n ≤ 16 ∧ ∀ t H', Same H H' → ToldL H' t n J (fun a b => M b a) z o → Q (.ref t) H'
section
variable {P : Program} {w : World} {K : PySem.W.Frag} {mg : Str → Option Value} {base : Heap}
theorem ok_law_beside (T : Top K mg) : FnOk P w K mg base CX0 2 T.f_law_beside T.fd_law_beside ["one", "other"] spBes := by
  refine T.F_law_beside.ok sc_law_beside (fun vs H Q E h => ?_) (fun cdv A outer s H vs Q E hr h => ?_)
  · obtain ⟨x, y, n, m, J, M, J', M', z, o, z', o', rfl, _⟩ := h; rfl
  · obtain ⟨x, y, n, m, J, M, J', M', z, o, z', o', rfl, tx, ty, m1, n1, nm, k⟩ := h
    refine ⟨_, (pss_cons (ps_set (i := 2) sc_law_beside.nd rfl (Or.inl rfl) (pe_callB RD.c_len (by rfl) T.n_len (by decide +kernel) (pa_cons (pe_ix ix_list (pv 1) pe_int (fun _ _ => rfl)) pa_nil)))
 (pss_cons (ps_set (i := 3) sc_law_beside.nd rfl (Or.inl rfl) (pe_lst (pa_cons (pe_call (ok_law_paired T) (hr.mono (by decide)) (by rfl) T.g_law_paired T.F_law_paired.kp T.b_law_paired .nil pass0 (pa_cons (pe_ix ix_list (pv 0) pe_int (fun _ _ => rfl)) (pa_cons (pe_ix ix_list (pv 1) pe_int (fun _ _ => rfl)) pa_nil))) (pa_cons (pe_call (ok_law_paired T) (hr.mono (by decide)) (by rfl) T.g_law_paired T.F_law_paired.kp T.b_law_paired .nil pass0 (pa_cons (pe_ix ix_list (pv 0) pe_int (fun _ _ => rfl)) (pa_cons (pe_ix ix_list (pv 1) pe_int (fun _ _ => rfl)) pa_nil))) pa_nil))))
 (pss_one (ps_ret (pe_op op_cat (pv 3) (pe_lst (pa_cons (pe_op op_add (pe_op op_mul (pe_ix ix_list (pv 0) pe_int (fun _ _ => rfl)) (pv 2)) (pe_ix ix_list (pv 1) pe_int (fun _ _ => rfl))) (pa_cons (pe_op op_add (pe_op op_mul (pe_ix ix_list (pv 0) pe_int (fun _ _ => rfl)) (pv 2)) (pe_ix ix_list (pv 1) pe_int (fun _ _ => rfl))) pa_nil)))))))), ?_⟩
    obtain ⟨a, b, ex, ta, tb⟩ := id tx
    have m16 : m ≤ 16 := Nat.le_trans (Nat.le_mul_of_pos_left m n1) nm
    obtain ⟨a', b', ey, ta', tb'⟩ := id ty
    walk_at "tx"
    refine ta'.x.len ?_
    walk_at "tx"
    refine ⟨a, a', n, m, J, J', rfl, ta, ta', m1, n1, nm, fun p1 H1 s1 t1 => ?_⟩
    replace ex := s1 _ _ ex
    replace ey := s1 _ _ ey
    walk_at "tx"
    refine ⟨b, b', n, m, M, M', rfl, tb.same s1, tb'.same s1, m1, n1, nm, fun p2 H2 s2 t2 => ?_⟩
    replace ex := s2 _ _ ex
    replace ey := s2 _ _ ey
    replace t1 := t1.same s2
    walk_at "tx"
    refine ⟨by show 2 ≤ sizeLine; decide, fun q1 hq1 => ?_⟩
    have s3 := same_upd (o := HO.lst [V.ref p1, V.ref p2]) hq1
    have e1 : upd H2 q1 (.lst [.ref p1, .ref p2]) q1 = some (.lst [.ref p1, .ref p2]) := upd_same
    replace ex := s3 _ _ ex
    replace ey := s3 _ _ ey
    replace t1 := t1.same s3
    replace t2 := t2.same s3
    have s03 := (s1.trans s2).trans s3
    clear s1 s2 s3
    generalize upd H2 q1 (.lst [.ref p1, .ref p2]) = H3 at *
    walk_at "tx"
    rw [nat_mad, nat_mad]
    refine ⟨by show 2 ≤ sizeLine; decide, fun q2 hq2 => ?_⟩
    have s4 := same_upd (o := HO.lst [V.int ((z * m + z' : Nat) : Int), V.int ((o * m + o' : Nat) : Int)]) hq2
    have e2 : upd H3 q2 (.lst [.int ((z * m + z' : Nat) : Int), .int ((o * m + o' : Nat) : Int)]) q2 = some (.lst [.int ((z * m + z' : Nat) : Int), .int ((o * m + o' : Nat) : Int)]) := upd_same
    refine ⟨q1, q2, _, _, rfl, rfl, s4 _ _ e1, e2, by show 4 ≤ sizeLine; decide, fun t ht => ?_⟩
    have s5 := same_upd (o := HO.lst [V.ref p1, V.ref p2, V.int ((z * m + z' : Nat) : Int), V.int ((o * m + o' : Nat) : Int)]) ht
    exact k t _ ((s03.trans s4).trans s5) ⟨p1, p2, upd_same, (t1.same s4).same s5, (t2.same s4).same s5⟩
theorem ok_law_turned (T : Top K mg) : FnOk P w K mg base CX0 1 T.f_law_turned T.fd_law_turned ["told"] spTrn := by
  refine T.F_law_turned.ok sc_law_turned (fun vs H Q E h => ?_) (fun cdv A outer s H vs Q E hr h => ?_)
  · obtain ⟨x, n, J, M, z, o, rfl, _⟩ := h; rfl
  · obtain ⟨x, n, J, M, z, o, rfl, tx, n16, k⟩ := h
    refine ⟨_, (pss_cons (ps_set (i := 1) sc_law_turned.nd rfl (Or.inr rfl) (pe_callB RD.c_len (by rfl) T.n_len (by decide +kernel) (pa_cons (pe_ix ix_list (pv 0) pe_int (fun _ _ => rfl)) pa_nil)))
 (pss_one (ps_ret (pe_lst (pa_cons (pe_ix ix_list (pv 0) pe_int (fun _ _ => rfl)) (pa_cons (pe_lc (own := [("a", 2)]) (g := (gName 2)) (tt := tYes) rfl sc_law_turned.nd (pi_range1 (by rfl) T.n_range (pa_cons (pv 1) pa_nil)) (blkOk_by (own := [("a", 2)]) (N := ["told", "many", "a", "b"]) (sc := defScope s_law_turned) (by decide +kernel)) (fun _ _ _ _ _ => (pg_name (i := 2) sc_law_turned.nd rfl (by first | exact Or.inl rfl | exact Or.inr rfl))) (fun _ _ _ _ _ => pts_nil) (fun _ _ _ _ _ => (pe_lc (own := [("b", 3)]) (g := (gName 3)) (tt := tYes) rfl sc_law_turned.nd (pi_range1 (by rfl) T.n_range (pa_cons (pv 1) pa_nil)) (blkOk_by (own := [("b", 3)]) (N := ["told", "many", "a", "b"]) (sc := _) (by kernel_rfl)) (fun _ _ _ _ _ => (pg_name (i := 3) sc_law_turned.nd rfl (by first | exact Or.inl rfl | exact Or.inr rfl))) (fun _ _ _ _ _ => pts_nil) (fun _ _ _ _ _ => (pe_ix (OQ.ixL K) (pe_ix (OQ.ixL K) (pe_ix (OQ.ixL K) (pv 0) pe_int (fun _ _ => rfl)) (pv 3) (fun _ _ => rfl)) (pv 2) (fun _ _ => rfl)))))) (pa_cons (pe_ix ix_list (pv 0) pe_int (fun _ _ => rfl)) (pa_cons (pe_ix ix_list (pv 0) pe_int (fun _ _ => rfl)) pa_nil)))))))), ?_⟩
    obtain ⟨a, b, et, ta, tb⟩ := id tx
    walk_at "tx"
    refine tb.x.len ?_
    walk_at "tx"
    refine ⟨n, rfl, by omega, by omega, fun D hD => ?_⟩
    refine lc_range (lo := 0) (n := (n : Int).toNat) (fun i H' => Same H H' ∧ RowsN H' D n i (fun a b => M b a)) ⟨same_upd hD, rowsN_zero⟩ ?_ ?_
    · rintro i H' hi' ⟨s1, r1⟩
      have hi : i < n := by omega
      walk_at "tx"
      refine ⟨n, rfl, by omega, by omega, fun D2 hD2 => ?_⟩
      refine lc_range (lo := 0) (n := (n : Int).toNat) (fun j H'' => Same H' H'' ∧ H'' D2 = some (.lst ((List.range j).map fun c => V.int (((fun a b => M b a) i c : Nat) : Int)))) ⟨same_upd hD2, upd_same⟩ ?_ ?_
      · rintro j H'' hj' ⟨s2, eD2⟩
        have hj : j < n := by omega
        obtain ⟨xs, r, ex, er, e5⟩ := (tb.same (s1.trans s2)).row hj
        have et2 := s2 _ _ (s1 _ _ et)
        walk_at "tx"
        refine RD.d_ixL (SqL.of ex) (by rw [Int.zero_add]; exact er) ?_
        walk_at "tx"
        refine RD.d_ixL (SqL.of e5) (by rw [Int.zero_add]; exact row_cell hi) ?_
        walk_at "tx"
        exact rowPutN (g := fun c => M c i) hD2 s2 (by omega) eD2 rfl
      · rintro H'' ⟨s2, eD2⟩
        rw [Int.toNat_natCast] at eD2
        exact rowsN_step hD s1 r1 hD2 s2 (by omega) eD2
    · rintro H' ⟨s1, r1⟩
      rw [Int.toNat_natCast] at r1
      have tp : TabXL H' D n (fun a b => M b a) := rowsN_end r1
      replace et := s1 _ _ et
      walk_at "tx"
      refine ⟨by show 4 ≤ sizeLine; decide, fun t ht => ?_⟩
      have s9 := same_upd (o := HO.lst [V.ref a, V.ref D, V.int z, V.int o]) ht
      exact k t _ (s1.trans s9) ⟨a, D, upd_same, (ta.same s1).same s9, tp.same s9⟩
end

/-! ### orders, names anew -/
open OQ (TabX RowX SeqAt)
open RK (Gd)
theorem er_map {α β : Type} {f : α → β} : ∀ {l : List α} {i : Nat}, (l.map f).eraseIdx i = (l.eraseIdx i).map f
  | [], _ => rfl
  | _ :: _, 0 => rfl
  | a :: l, i + 1 => by rw [List.map_cons, List.eraseIdx_cons_succ, List.eraseIdx_cons_succ, List.map_cons, er_map]
theorem er_perm {α : Type} : ∀ {l : List α} {i : Nat} (h : i < l.length), (l[i] :: l.eraseIdx i).Perm l
  | a :: l, 0, _ => .refl _
  | a :: l, i + 1, h => by
    rw [List.getElem_cons_succ, List.eraseIdx_cons_succ]
    exact (List.Perm.swap _ _ _).trans ((er_perm (Nat.lt_of_succ_lt_succ h)).cons a)
theorem rgV_nat {n : Nat} : rgV 0 (n : Int) = (List.range n).map fun (j : Nat) => V.int j := by
  unfold rgV
  rw [show ((n : Int) - 0).toNat = n by omega]
  exact List.map_congr_left fun j _ => by rw [Int.zero_add]
def spOrd : Sp := fun vs H Q _ => ∃ (h c : Addr) (n : Nat), vs = [.ref h, .int n] ∧ HandAt H h c ∧ n ≤ 16 ∧ ∀ (p : Addr) (os : List Nat) (H' : Hp), HandAt H' h c → Kx h H H' → H' p = some (.lst (os.map fun (j : Nat) => V.int j)) → os.Perm (List.range n) → Q (.ref p) H'
section
variable {P : Program} {w : World} {K : PySem.W.Frag} {mg : Str → Option Value} {base : Heap}
theorem ok_law_order (T : Top K mg) : FnOk P w K mg base CX0 2 T.f_law_order T.fd_law_order ["hand", "many"] spOrd := by
  refine T.F_law_order.ok sc_law_order (fun vs H Q E h => ?_) (fun cdv A outer s H vs Q E hr h => ?_)
  · obtain ⟨h, c, n, rfl, _⟩ := h; rfl
  · obtain ⟨h, c, n, rfl, hT, n16, k⟩ := h
    refine ⟨_, (pss_cons (ps_set (i := 2) sc_law_order.nd rfl (Or.inl rfl) (pe_listRg (by rfl) (by rfl) T.n_list (prg_1 (by rfl) T.n_range (pv 1))))
 (pss_cons (ps_set (i := 3) sc_law_order.nd rfl (Or.inl rfl) (pe_lst pa_nil))
 (pss_cons (ps_for PassesOwn.never rfl (pi_range1 (by rfl) T.n_range (pa_cons (pv 1) pa_nil)) (pg_name (i := 4) sc_law_order.nd rfl (Or.inl rfl))
 (pss_one (ps_expr (pe_bm PySem.F.plainAttrs_list PySem.F.slot_list_append PySem.F.type_list_append mt_append (pv 3) (pa_cons (pe_bm PySem.F.plainAttrs_list PySem.F.slot_list_pop PySem.F.type_list_pop mt_popAt (pv 2) (pa_cons (pe_call (ok_law_draw T) (hr.mono (by decide)) (by rfl) T.g_law_draw T.F_law_draw.kp T.b_law_draw .nil pass0 (pa_cons (pv 0) (pa_cons (pe_callB RD.c_len (by rfl) T.n_len (by decide +kernel) (pa_cons (pv 2) pa_nil)) pa_nil))) pa_nil)) pa_nil)))))
 (pss_one (ps_ret (pv 3)))))), ?_⟩
    walk_at "tx"
    refine RD.d_lstRg ?_
    walk_at "tx"
    refine ⟨RgOk.of_le (by omega) (by omega) (by omega) (by omega), fun R hR => ?_⟩
    have sR := same_upd (o := HO.lst (rgV 0 (n : Int))) hR
    have eR : upd H R (.lst (rgV 0 (n : Int))) R = some (.lst ((List.range n).map fun (j : Nat) => V.int j)) := by
      rw [upd_same, rgV_nat]
    have nR := (hT.ne hR).1
    have cR := (hT.ne hR).2
    have hT1 := hT.same sR
    generalize upd H R (.lst (rgV 0 (n : Int))) = H1 at *
    walk_at "tx"
    refine ⟨by show 0 ≤ sizeLine; decide, fun F hF => ?_⟩
    have sF := same_upd (o := HO.lst []) hF
    have eF : upd H1 F (.lst []) F = some (.lst []) := upd_same
    have nF := (hT1.ne hF).1
    have cF := (hT1.ne hF).2
    have nRF := ne_of_none eR hF
    replace eR := sF _ _ eR
    have hT2 := hT1.same sF
    have k2 : Kx h H (upd H1 F (.lst [])) := Same.kx (sR.trans sF)
    have hF0 : H F = none := sR.free hF
    generalize upd H1 F (.lst []) = H2 at *
    walk_at "tx"
    refine ⟨n, rfl, by omega, by omega, ?_⟩
    refine RD.f_range (lo := 0) (n := (n : Int).toNat) (fun i σ' H' => (∃ v4 : Option V, σ' = [some (.ref h), some (.int n), some (.ref R), some (.ref F), v4]) ∧ HandAt H' h c ∧ Kx h H H' ∧ ∃ os rs : List Nat, H' R = some (.lst (rs.map fun (j : Nat) => V.int j)) ∧ H' F = some (.lst (os.map fun (j : Nat) => V.int j)) ∧ (os ++ rs).Perm (List.range n) ∧ os.length = i) ⟨⟨_, rfl⟩, hT2, k2, [], List.range n, eR, eF, .refl _, rfl⟩ ?_ ?_
    · rintro i σ' H3 hi' ⟨⟨v4, rfl⟩, hT3, k3, os, rs, eR3, eF3, pm, lo⟩
      have hi : i < n := by omega
      have ll : os.length + rs.length = n := by have := pm.length_eq; rwa [List.length_append, List.length_range] at this
      walk_at "tx"
      refine ⟨RD.tyL eF3, ?_⟩
      walk_at "tx"
      refine ⟨RD.tyL eR3, ?_⟩
      walk_at "tx"
      rw [List.length_map]
      refine ⟨h, c, ((rs.length : Nat) : Int), rfl, hT3, by omega, log2_lt (by omega), fun r H4 r0 r1 hT4 b4 => ?_⟩
      obtain ⟨r, rfl⟩ := Int.eq_ofNat_of_zero_le r0
      have rl : r < rs.length := by omega
      replace eR3 := (b4 R nR).trans eR3
      replace eF3 := (b4 F nF).trans eF3
      have k4 : Kx h H H4 := fun q o nq e => by rw [b4 q nq]; exact k3 q o nq e
      clear b4 k3 hT3
      walk_at "tx"
      refine ⟨R, _, (r : Int), r, .int (rs[r] : Nat), rfl, rfl, eR3, by omega, by omega, ?_, ?_, ?_⟩
      · unfold seqIndex?
        rw [List.length_map]
        simp only [show ¬ ((r : Int) < 0) by omega, if_false, Int.toNat_natCast]
        rw [if_pos (by simp; omega)]
      · rw [List.getElem?_map, List.getElem?_eq_getElem rl]; rfl
      walk_at "tx"
      have eF5 : upd H4 R (.lst ((rs.map fun (j : Nat) => V.int j).eraseIdx r)) F = some (.lst (os.map fun (j : Nat) => V.int j)) := by rw [upd_ne nRF.symm]; exact eF3
      refine RD.d_app eF5 (by rw [List.length_map]; exact Nat.lt_of_le_of_lt (by omega : os.length ≤ 16) (by decide)) ?_
      refine ⟨⟨_, rfl⟩, (hT4.put nR cR).put nF cF, fun q o nq e => by rw [upd_ne (ne_of_none e hF0), upd_ne (ne_of_none e hR)]; exact k4 q o nq e, os ++ [rs[r]], rs.eraseIdx r, ?_, ?_, ?_, ?_⟩
      · rw [upd_ne nRF, upd_same, er_map]
      · rw [upd_same, List.map_append]; rfl
      · rw [List.append_assoc]
        exact ((er_perm rl).append_left os).trans pm
      · rw [List.length_append, lo]; rfl
    · rintro σ' H3 ⟨⟨v4, rfl⟩, hT3, k3, os, rs, eR3, eF3, pm, lo⟩
      walk_at "tx"
      have rn : rs = [] := by
        have := pm.length_eq
        rw [List.length_append, List.length_range, lo, Int.toNat_natCast] at this
        exact List.length_eq_zero_iff.mp (by omega)
      subst rn
      rw [List.append_nil] at pm
      exact k F os H3 hT3 k3 eF3 pm
end

/-! ### rows that are all new -/
open OQ (TabX RowX SeqAt)
def upf (f : Nat → Nat → Nat) (a b v : Nat) : Nat → Nat → Nat := fun i j => if i = a ∧ j = b then v else f i j
theorem set_row {n b v : Nat} {g : Nat → Nat} : ((List.range n).map fun j => V.int (g j : Nat)).set b (V.int (v : Nat)) = (List.range n).map fun j => V.int ((if j = b then v else g j : Nat) : Int) := by
  apply List.ext_getElem?
  intro j
  rw [List.getElem?_set]
  by_cases e : b = j
  · subst e
    rw [if_pos rfl]
    by_cases hb : b < n
    · rw [if_pos (by rw [List.length_map, List.length_range]; exact hb), List.getElem?_map, List.getElem?_range hb]
      simp
    · rw [if_neg (by rw [List.length_map, List.length_range]; exact hb), List.getElem?_eq_none (by rw [List.length_map, List.length_range]; omega)]
  · rw [if_neg e]
    by_cases hj : j < n
    · rw [List.getElem?_map, List.getElem?_map, List.getElem?_range hj]
      show some (V.int (g j : Nat)) = some (V.int ((if j = b then v else g j : Nat) : Int))
      rw [if_neg fun z => e z.symm]
    · rw [List.getElem?_eq_none (by rw [List.length_map, List.length_range]; omega), List.getElem?_eq_none (by rw [List.length_map, List.length_range]; omega)]
/-- the first i rows stand in the list at D, all of them new behind H0, no two the same -/
def RowsC (H0 H : Hp) (D : Addr) (n i : Nat) (f : Nat → Nat → Nat) : Prop := ∃ us : List Addr, us.length = i ∧ us.Nodup ∧ D ∉ us ∧ (∀ u ∈ us, H0 u = none) ∧ H D = some (.lst (us.map V.ref)) ∧ ∀ (j : Nat) (u : Addr), us[j]? = some u → H u = some (.lst ((List.range n).map fun c => V.int (f j c : Nat)))
theorem rowsC_zero {H0 H : Hp} {D : Addr} {n : Nat} {f : Nat → Nat → Nat} : RowsC H0 (upd H D (.lst [])) D n 0 f := ⟨[], rfl, .nil, (fun z => nomatch z), (fun _ z => nomatch z), upd_same, (fun _ _ e => nomatch e)⟩
theorem rowsC_step {H0 H' H'' : Hp} {D D2 : Addr} {n i : Nat} {f : Nat → Nat → Nat} (hD : H0 D = none) (s1 : Same H0 H') (r : RowsC H0 H' D n i f) (hD2 : H' D2 = none) (s2 : Same H' H'') (hi : i ≤ 100) (e2 : H'' D2 = some (.lst ((List.range n).map fun c => V.int (f i c : Nat)))) :
    ∃ acc, H'' D = some (.lst acc) ∧ acc.length < sizeLine ∧ Same H0 (upd H'' D (.lst (acc ++ [V.ref D2]))) ∧ RowsC H0 (upd H'' D (.lst (acc ++ [V.ref D2]))) D n (i + 1) f := by
  obtain ⟨us, lu, nd, nD', fr, eD, all⟩ := r
  have nD : D2 ≠ D := fun z => by rw [z, eD] at hD2; cases hD2
  have n2 : D2 ∉ us := fun m => by
    obtain ⟨j, hj⟩ := List.getElem?_of_mem m
    rw [all j _ hj] at hD2; cases hD2
  refine ⟨_, s2 _ _ eD, by rw [List.length_map, lu]; exact Nat.lt_of_le_of_lt hi (by decide), fun b u e => ?_, us ++ [D2], by rw [List.length_append, lu]; rfl, WW.nodup_snoc nd n2, ?_, ?_, by rw [upd_same, List.map_append]; rfl, fun j u e => ?_⟩
  · rw [upd_ne (ne_of_none e hD)]; exact s2 _ _ (s1 _ _ e)
  · intro m
    rcases List.mem_append.mp m with m | m
    · exact nD' m
    · exact nD (List.mem_singleton.mp m).symm
  · intro u m
    rcases List.mem_append.mp m with m | m
    · exact fr u m
    · rw [List.mem_singleton.mp m]; exact s1.free hD2
  · by_cases lj : j < us.length
    · rw [List.getElem?_append_left lj] at e
      have nu : u ≠ D := fun z => nD' (z ▸ List.mem_of_getElem? e)
      rw [upd_ne nu]; exact s2 _ _ (all j u e)
    · have q : j = i := by
        have := (List.getElem?_eq_some_iff.mp e).1
        rw [List.length_append, lu] at this
        simp at this
        omega
      subst q
      rw [List.getElem?_append_right (by omega), lu, Nat.sub_self] at e
      cases e
      rw [upd_ne nD]; exact e2
theorem RowsC.l {H0 H : Hp} {D : Addr} {n : Nat} {f : Nat → Nat → Nat} (r : RowsC H0 H D n n f) : TabXL H D n f := by
  obtain ⟨us, lu, nd, nD', fr, eD, all⟩ := r
  exact ⟨us, lu, eD, all⟩
theorem RowsC.but {H0 H H' : Hp} {h c D : Addr} {n i : Nat} {f : Nat → Nat → Nat} (r : RowsC H0 H D n i f) (b : But h H H') (x : HandAt H0 h c) (hD : H0 D = none) : RowsC H0 H' D n i f := by
  obtain ⟨us, lu, nd, nD', fr, eD, all⟩ := r
  exact ⟨us, lu, nd, nD', fr, by rw [b D (x.ne hD).1]; exact eD, fun j u e => by rw [b u (x.ne (fr u (List.mem_of_getElem? e))).1]; exact all j u e⟩
theorem RowsC.kx {H0 H H' : Hp} {h c D : Addr} {n i : Nat} {f : Nat → Nat → Nat} (r : RowsC H0 H D n i f) (b : Kx h H H') (x : HandAt H0 h c) (hD : H0 D = none) : RowsC H0 H' D n i f := by
  obtain ⟨us, lu, nd, nD', fr, eD, all⟩ := r
  exact ⟨us, lu, nd, nD', fr, b _ _ (x.ne hD).1 eD, fun j u e => b _ _ (x.ne (fr u (List.mem_of_getElem? e))).1 (all j u e)⟩
/-- one cell set -/
theorem RowsC.set {H0 H : Hp} {h c D : Addr} {n a b v : Nat} {f : Nat → Nat → Nat} (r : RowsC H0 H D n n f) (ha : a < n) (x : HandAt H0 h c) (y : HandAt H h c) (k : Kx h H0 H) :
    ∃ u xs, atI xs (a : Int) = some (V.ref u) ∧ H D = some (.lst xs) ∧ H u = some (.lst ((List.range n).map fun j => V.int (f a j : Nat))) ∧
      HandAt (upd H u (.lst (((List.range n).map fun j => V.int (f a j : Nat)).set b (V.int (v : Nat))))) h c ∧ Kx h H0 (upd H u (.lst (((List.range n).map fun j => V.int (f a j : Nat)).set b (V.int (v : Nat))))) ∧
      RowsC H0 (upd H u (.lst (((List.range n).map fun j => V.int (f a j : Nat)).set b (V.int (v : Nat))))) D n n (upf f a b v) := by
  obtain ⟨us, lu, nd, nD', fr, eD, all⟩ := r
  have al : a < us.length := by omega
  have ea : us[a]? = some us[a] := List.getElem?_eq_getElem al
  have f0 := fr _ (List.getElem_mem al)
  refine ⟨us[a], _, atI_nat (by rw [List.getElem?_map, ea]; rfl), eD, all a _ ea, y.put (x.ne f0).1 (x.ne f0).2, fun q o n e => by rw [upd_ne (ne_of_none e f0)]; exact k q o n e, us, lu, nd, nD', fr, ?_, fun j u e => ?_⟩
  · rw [upd_ne (fun z => nD' (by rw [z]; exact List.getElem_mem al))]; exact eD
  · by_cases c2 : j = a
    · subst c2
      rw [ea] at e
      cases e
      rw [upd_same, set_row]
      unfold upf
      simp
    · have nu : u ≠ us[a] := fun z => by
        subst z
        exact c2 ((List.getElem?_inj (List.getElem?_eq_some_iff.mp e).1 nd).mp (e.trans ea.symm))
      rw [upd_ne nu]
      have : (fun c => V.int ((upf f a b v j c : Nat) : Int)) = fun c => V.int ((f j c : Nat) : Int) := by
        funext c
        unfold upf
        rw [if_neg (fun z => c2 z.1)]
      rw [this]
      exact all j u e

/-- a table whose list and rows are all new behind H0 -/
theorem RowsC.put {H0 H : Hp} {D q : Addr} {n : Nat} {f : Nat → Nat → Nat} {o : HO} (r : RowsC H0 H D n n f) (e : H0 q ≠ none) (hD : H0 D = none) : TabXL (upd H q o) D n f := by
  obtain ⟨us, lu, nd, nD', fr, eD, all⟩ := r
  have ne : ∀ {u : Addr}, H0 u = none → u ≠ q := fun h z => e (by rw [← z]; exact h)
  exact ⟨us, lu, by rw [upd_ne (ne hD)]; exact eD, fun i u z => by rw [upd_ne (ne (fr u (List.mem_of_getElem? z)))]; exact all i u z⟩

/-! ### worths named anew -/
open OQ (TabX RowX SeqAt)
open RK (Gd Bij ren)
def sg (os : List Nat) (a : Nat) : Nat := os.getD a 0
def ta (os : List Nat) (a : Nat) : Nat := os.idxOf a
theorem sg_get {os : List Nat} {a : Nat} (h : a < os.length) : os[a]? = some (sg os a) := by
  unfold sg
  rw [List.getD_eq_getElem?_getD, List.getElem?_eq_getElem h]; rfl
theorem perm_bij {os : List Nat} {n : Nat} (h : os.Perm (List.range n)) : Bij n (sg os) (ta os) := by
  have ln : os.length = n := by rw [h.length_eq, List.length_range]
  have nd : os.Nodup := h.nodup_iff.mpr List.nodup_range
  have mem : ∀ a, a < n → a ∈ os := fun a ha => h.mem_iff.mpr (List.mem_range.mpr ha)
  have tl : ∀ a, a < n → ta os a < os.length := fun a ha => List.idxOf_lt_length_of_mem (mem a ha)
  refine ⟨fun a ha => ?_, fun a ha => by rw [← ln]; exact tl a ha, fun a ha => ?_, fun a ha => ?_⟩
  · exact List.mem_range.mp (h.mem_iff.mp (List.mem_of_getElem? (sg_get (by omega))))
  · have e := sg_get (os := os) (a := a) (by omega)
    have m := List.mem_of_getElem? e
    have e2 : os[ta os (sg os a)]? = some (sg os a) := by
      unfold ta
      rw [List.getElem?_eq_getElem (List.idxOf_lt_length_of_mem m), List.getElem_idxOf]
    exact ((List.getElem?_inj (by rw [ln]; exact ha) nd).mp (e.trans e2.symm)).symm
  · have e2 : os[ta os a]? = some a := by
      have l := tl a ha
      unfold ta at *
      rw [List.getElem?_eq_getElem l, List.getElem_idxOf]
    have e := (sg_get (tl a ha)).symm.trans e2
    exact Option.some.inj e
theorem ta_get {os : List Nat} {n a : Nat} (h : os.Perm (List.range n)) (ha : a < n) : os[ta os a]? = some a := by
  have m : a ∈ os := h.mem_iff.mpr (List.mem_range.mpr ha)
  unfold ta
  rw [List.getElem?_eq_getElem (List.idxOf_lt_length_of_mem m), List.getElem_idxOf]
theorem eqV_int {i j : Int} : eqV (.int i) (.int j) = true ↔ i = j := by
  unfold eqV
  simp
/-- a table that is new behind a heap where Pt stood -/
def NewT (H : Hp) (Pt q : Addr) (n : Nat) (f : Nat → Nat → Nat) : Prop := ∃ H0 : Hp, H0 Pt ≠ none ∧ H0 q = none ∧ RowsC H0 H q n n f
theorem NewT.same {H H' : Hp} {Pt q : Addr} {n : Nat} {f : Nat → Nat → Nat} (h : NewT H Pt q n f) (s : Same H H') : NewT H' Pt q n f := by
  obtain ⟨H0, e1, e2, us, lu, nd, nD', fr, eD, all⟩ := h
  exact ⟨H0, e1, e2, us, lu, nd, nD', fr, s _ _ eD, fun j u e => s _ _ (all j u e)⟩
theorem NewT.put {H : Hp} {Pt q : Addr} {n : Nat} {f : Nat → Nat → Nat} {o : HO} (h : NewT H Pt q n f) : NewT (upd H Pt o) Pt q n f := by
  obtain ⟨H0, e1, e2, us, lu, nd, nD', fr, eD, all⟩ := h
  have ne : ∀ {u : Addr}, H0 u = none → u ≠ Pt := fun h z => e1 (by rw [← z]; exact h)
  exact ⟨H0, e1, e2, us, lu, nd, nD', fr, by rw [upd_ne (ne e2)]; exact eD, fun j u e => by rw [upd_ne (ne (fr u (List.mem_of_getElem? e)))]; exact all j u e⟩
theorem NewT.l {H : Hp} {Pt q : Addr} {n : Nat} {f : Nat → Nat → Nat} (h : NewT H Pt q n f) : TabXL H q n f := by
  obtain ⟨H0, e1, e2, us, lu, nd, nD', fr, eD, all⟩ := h
  exact ⟨us, lu, eD, all⟩
def spRen : Sp := fun vs H Q _ => ∃ (t p : Addr) (os : List Nat) (n : Nat) (J M : Nat → Nat → Nat) (z o : Nat), vs = [.ref t, .ref p] ∧ ToldL H t n J M z o ∧ H p = some (.lst (os.map fun (j : Nat) => V.int j)) ∧ os.Perm (List.range n) ∧ n ≤ 16 ∧ z < n ∧ o < n ∧
  (∀ a b, a < n → b < n → J a b < n) ∧ (∀ a b, a < n → b < n → M a b < n) ∧ ∀ t' H', Same H H' → ToldL H' t' n (ren (sg os) (ta os) J) (ren (sg os) (ta os) M) (sg os z) (sg os o) → Q (.ref t') H'
section
variable {P : Program} {w : World} {K : PySem.W.Frag} {mg : Str → Option Value} {base : Heap}
theorem ok_law_renamed (T : Top K mg) : FnOk P w K mg base CX0 1 T.f_law_renamed T.fd_law_renamed ["told", "order"] spRen := by
  refine T.F_law_renamed.ok sc_law_renamed (fun vs H Q E h => ?_) (fun cdv A outer s H vs Q E hr h => ?_)
  · obtain ⟨t, p, os, n, J, M, z, o, rfl, _⟩ := h; rfl
  · obtain ⟨t, p, os, n, J, M, z, o, rfl, ⟨a, b, et, tj, tm⟩, ep, pm, n16, zn, on, jn, mn, k⟩ := h
    have ln : os.length = n := by rw [pm.length_eq, List.length_range]
    have bj := perm_bij pm
    have et0 := et
    have ep0 := ep
    refine ⟨_, (pss_cons (ps_set (i := 2) sc_law_renamed.nd rfl (by first | exact Or.inr rfl | exact Or.inl rfl) (pe_callB RD.c_len (by rfl) T.n_len (by decide +kernel) (pa_cons (pv 1) pa_nil)))
 (pss_cons (ps_set (i := 3) sc_law_renamed.nd rfl (by first | exact Or.inr rfl | exact Or.inl rfl) (pe_lc (own := [("a", 4)]) (g := (gName 4)) (tt := tYes) rfl sc_law_renamed.nd (pi_range1 (by rfl) T.n_range (pa_cons (pv 2) pa_nil)) (blkOk_by (own := [("a", 4)]) (N := ["told", "order", "many", "back", "a", "parts", "rows", "b"]) (sc := defScope s_law_renamed) (by decide +kernel)) (fun _ _ _ _ _ => (pg_name (i := 4) sc_law_renamed.nd rfl (by first | exact Or.inr rfl | exact Or.inl rfl))) (fun _ _ _ _ _ => pts_nil) (fun _ _ _ _ _ => (OQ.bmK K (pe_bm PySem.F.plainAttrs_list PySem.F.slot_list_index PySem.F.type_list_index (OQ.mt_indexK K) (pv 1) (pa_cons (pv 4) pa_nil))))))
 (pss_cons (ps_set (i := 5) sc_law_renamed.nd rfl (Or.inl rfl) (pe_lst pa_nil))
 (pss_cons (ps_for PassesOwn.never rfl (pi_list (pe_slice sl_list (pv 0) po_none (po_some pe_int))) (pg_name (i := 6) sc_law_renamed.nd rfl (by first | exact Or.inr rfl | exact Or.inl rfl))
 (pss_one (ps_expr (pe_bm PySem.F.plainAttrs_list PySem.F.slot_list_append PySem.F.type_list_append mt_append (pv 5) (pa_cons (pe_lc (own := [("a", 4)]) (g := (gName 4)) (tt := tYes) rfl sc_law_renamed.nd (pi_range1 (by rfl) T.n_range (pa_cons (pv 2) pa_nil)) (blkOk_by (own := [("a", 4)]) (N := ["told", "order", "many", "back", "a", "parts", "rows", "b"]) (sc := defScope s_law_renamed) (by decide +kernel)) (fun _ _ _ _ _ => (pg_name (i := 4) sc_law_renamed.nd rfl (by first | exact Or.inl rfl | exact Or.inr rfl))) (fun _ _ _ _ _ => pts_nil) (fun _ _ _ _ _ => (pe_lc (own := [("b", 7)]) (g := (gName 7)) (tt := tYes) rfl sc_law_renamed.nd (pi_range1 (by rfl) T.n_range (pa_cons (pv 2) pa_nil)) (blkOk_by (own := [("b", 7)]) (N := ["told", "order", "many", "back", "a", "parts", "rows", "b"]) (sc := _) (by kernel_rfl)) (fun _ _ _ _ _ => (pg_name (i := 7) sc_law_renamed.nd rfl (by first | exact Or.inl rfl | exact Or.inr rfl))) (fun _ _ _ _ _ => pts_nil) (fun _ _ _ _ _ => (pe_ix (OQ.ixL K) (pv 1) (pe_ix (OQ.ixL K) (pe_ix (OQ.ixL K) (pv 6) (pe_ix (OQ.ixL K) (pv 3) (pv 4) (fun _ _ => rfl)) (fun _ _ => rfl)) (pe_ix (OQ.ixL K) (pv 3) (pv 7) (fun _ _ => rfl)) (fun _ _ => rfl)) (fun _ _ => rfl)))))) pa_nil)))))
 (pss_one (ps_ret (pe_op op_cat (pv 5) (pe_lst (pa_cons (pe_ix ix_list (pv 1) (pe_ix ix_list (pv 0) pe_int (fun _ _ => rfl)) (fun _ _ => rfl)) (pa_cons (pe_ix ix_list (pv 1) (pe_ix ix_list (pv 0) pe_int (fun _ _ => rfl)) (fun _ _ => rfl)) pa_nil)))))))))), ?_⟩
    walk_at "tx"
    rw [List.length_map, ln]
    refine ⟨n, rfl, by omega, by omega, fun D hD => ?_⟩
    refine lc_range (lo := 0) (n := (n : Int).toNat) (fun i H' => Same H H' ∧ H' D = some (.lst ((List.range i).map fun c => V.int ((ta os c : Nat) : Int)))) ⟨same_upd hD, upd_same⟩ ?_ ?_
    · rintro i H' hi' ⟨s1, eD⟩
      have hi : i < n := by omega
      have ep1 := s1 _ _ ep
      walk_at "tx"
      refine ⟨RD.tyL ep1, ?_⟩
      walk_at "tx"
      rw [Int.zero_add]
      refine ⟨p, _, .int i, ta os i, .int i, rfl, rfl, SqL.of ep1, rfl, ?_, ?_, ?_, ?_, ?_⟩
      · exact List.all_eq_true.mpr fun x m => by obtain ⟨j, _, rfl⟩ := List.mem_map.mp m; rfl
      · rw [List.getElem?_map, ta_get pm hi]; rfl
      · exact eqV_int.mpr rfl
      · intro m z' hm e
        rw [List.getElem?_map] at e
        cases hq : os[m]? with
        | none => rw [hq] at e; cases e
        | some y =>
          rw [hq] at e; cases e
          cases he : eqV (.int (y : Nat)) (.int (i : Nat)) with
          | false => rfl
          | true =>
            have : y = i := by have := eqV_int.mp he; omega
            subst this
            have nd : os.Nodup := pm.nodup_iff.mpr List.nodup_range
            have := (List.getElem?_inj (List.getElem?_eq_some_iff.mp hq).1 nd).mp (hq.trans (ta_get pm hi).symm)
            omega
      exact rowPutN (g := ta os) hD s1 (by omega) eD rfl
    rintro H1 ⟨s1, eD⟩
    rw [Int.toNat_natCast] at eD
    walk_at "tx"
    refine ⟨by show 0 ≤ sizeLine; decide, fun Pt hP => ?_⟩
    have s2 := same_upd (o := HO.lst []) hP
    have eP : upd H1 Pt (.lst []) Pt = some (.lst []) := upd_same
    have nDP := ne_of_none eD hP
    replace eD := s2 _ _ eD
    replace et := s2 _ _ (s1 _ _ et)
    replace ep := s2 _ _ (s1 _ _ ep)
    have hP0 : H Pt = none := s1.free hP
    have s02 := s1.trans s2
    clear s1 s2 hP
    generalize upd H1 Pt (.lst []) = H2 at *
    walk_at "tx"
    refine ⟨t, _, rfl, SqL.of et, fun L hL => ?_⟩
    rw [show cutV [V.ref a, V.ref b, V.int z, V.int o] none (some 2) = [V.ref a, V.ref b] from rfl]
    have sL := same_upd (o := HO.lst [V.ref a, V.ref b]) hL
    have eL : upd H2 L (.lst [.ref a, .ref b]) L = some (.lst [.ref a, .ref b]) := upd_same
    have nL := ne_of_none eP hL
    have nD := ne_of_none eD hL
    replace eP := sL _ _ eP
    replace eD := sL _ _ eD
    have s3 := s02.trans sL
    have hL0 : H L = none := s02.free hL
    clear sL hL s02
    generalize upd H2 L (.lst [.ref a, .ref b]) = H3 at *
    refine ⟨L, rfl, ⟨_, SqL.of eL⟩, ?_⟩
    refine RD.f_list (K := K) (a := L) (xs := [.ref a, .ref b]) (fun i σ' H' => (∃ v6 : Option V, σ' = [some (.ref t), some (.ref p), some (.int n), some (.ref D), none, some (.ref Pt), v6, none]) ∧ Same H H' ∧ H' D = some (.lst ((List.range n).map fun c => V.int ((ta os c : Nat) : Int))) ∧ H' L = some (.lst [.ref a, .ref b]) ∧
      ∃ ps : List Addr, ps.length = i ∧ H' Pt = some (.lst (ps.map V.ref)) ∧ ∀ (j : Nat) (q : Addr), ps[j]? = some q → NewT H' Pt q n (ren (sg os) (Toy.ta os) (if j = 0 then J else M))) ⟨⟨_, rfl⟩, s3, eD, eL, [], rfl, eP, fun j q e => nomatch e⟩ (fun i σ' H' _ z => SqL.of z.2.2.2.1) ?_ ?_
    · rintro i x σ' H4 hi ⟨⟨v6, rfl⟩, s4, eD4, eL4, ps, lp, eP4, all⟩
      obtain ⟨r, f, rfl, tf, fe, fn⟩ : ∃ r f, x = .ref r ∧ TabXL H4 r n f ∧ (if i = 0 then J else M) = f ∧ ∀ a b, a < n → b < n → f a b < n := by
        match i, hi with
        | 0, hi => cases hi; exact ⟨a, J, rfl, tj.same s4, rfl, jn⟩
        | 1, hi => cases hi; exact ⟨b, M, rfl, tm.same s4, rfl, mn⟩
      have ep4 := s4 _ _ ep0
      walk_at "tx"
      refine ⟨RD.tyL eP4, ?_⟩
      walk_at "tx"
      refine ⟨n, rfl, by omega, by omega, fun Dn hDn => ?_⟩
      refine lc_range (lo := 0) (n := (n : Int).toNat) (fun i H' => Same H4 H' ∧ RowsC H4 H' Dn n i (ren (sg os) (Toy.ta os) f)) ⟨same_upd hDn, rowsC_zero⟩ ?_ ?_
      · rintro i1 H' hi' ⟨s5, r5⟩
        have hi1 : i1 < n := by omega
        walk_at "tx"
        refine ⟨n, rfl, by omega, by omega, fun D2 hD2 => ?_⟩
        refine lc_range (lo := 0) (n := (n : Int).toNat) (fun j H'' => Same H' H'' ∧ H'' D2 = some (.lst ((List.range j).map fun c => V.int ((ren (sg os) (Toy.ta os) f i1 c : Nat) : Int)))) ⟨same_upd hD2, upd_same⟩ ?_ ?_
        · rintro j H'' hj' ⟨s6, eD2⟩
          have hj : j < n := by omega
          have s46 := s5.trans s6
          obtain ⟨xs, r', ex, er, e5⟩ := (tf.same s46).row (bj.tn i1 hi1)
          have lf := fn _ _ (bj.tn i1 hi1) (bj.tn j hj)
          walk_at "tx"
          refine RD.d_ixL (SqL.of (s46 _ _ eD4)) (by rw [Int.zero_add]; exact row_cell hi1) ?_
          walk_at "tx"
          refine RD.d_ixL (SqL.of ex) er ?_
          walk_at "tx"
          refine RD.d_ixL (SqL.of (s46 _ _ eD4)) (by rw [Int.zero_add]; exact row_cell hj) ?_
          walk_at "tx"
          refine RD.d_ixL (SqL.of e5) (row_cell (bj.tn j hj)) ?_
          walk_at "tx"
          refine RD.d_ixL (SqL.of (s46 _ _ ep4)) (atI_nat (by rw [List.getElem?_map, sg_get (by rw [ln]; exact lf)]; rfl)) ?_
          exact rowPutN (g := fun c => ren (sg os) (Toy.ta os) f i1 c) hD2 s6 (by omega) eD2 rfl
        · rintro H'' ⟨s6, eD2⟩
          rw [Int.toNat_natCast] at eD2
          exact rowsC_step hDn s5 r5 hD2 s6 (by omega) eD2
      · rintro H5 ⟨s5, r5⟩
        rw [Int.toNat_natCast] at r5
        walk_at "tx"
        refine RD.d_app (s5 _ _ eP4) (by rw [List.length_map, lp]; have := (List.getElem?_eq_some_iff.mp hi).1; exact Nat.lt_of_lt_of_le this (by show 2 ≤ sizeLine; decide)) ?_
        have nP : Pt ≠ Dn := ne_of_none eP4 hDn
        have nn : H4 Pt ≠ none := by rw [eP4]; exact fun z => by cases z
        refine ⟨⟨_, rfl⟩, same_put (s4.trans s5) hP0, ?_, ?_, ps ++ [Dn], by rw [List.length_append, lp]; rfl, by rw [upd_same, List.map_append]; rfl, fun j q e => ?_⟩
        · rw [upd_ne nDP]; exact s5 _ _ eD4
        · rw [upd_ne nL.symm]; exact s5 _ _ eL4
        · by_cases lj : j < ps.length
          · rw [List.getElem?_append_left lj] at e
            exact ((all j q e).same s5).put
          · have : j = i := by
              have := (List.getElem?_eq_some_iff.mp e).1
              rw [List.length_append, lp] at this
              simp at this; omega
            subst this
            rw [List.getElem?_append_right (by omega), lp, Nat.sub_self] at e
            cases e
            rw [fe]
            exact NewT.put ⟨H4, nn, hDn, r5⟩
    · rintro σ' H4 ⟨⟨v6, rfl⟩, s4, eD4, eL4, ps, lp, eP4, all⟩
      have et4 := s4 _ _ et0
      have ep4 := s4 _ _ ep0
      walk_at "tx"
      refine RD.d_ixL (SqL.of ep4) (atI_nat (by rw [List.getElem?_map, sg_get (by rw [ln]; exact zn)]; rfl)) ?_
      walk_at "tx"
      refine RD.d_ixL (SqL.of ep4) (atI_nat (by rw [List.getElem?_map, sg_get (by rw [ln]; exact on)]; rfl)) ?_
      walk_at "tx"
      refine ⟨by show 2 ≤ sizeLine; decide, fun q2 hq2 => ?_⟩
      have s5 := same_upd (o := HO.lst [V.int (sg os z : Nat), V.int (sg os o : Nat)]) hq2
      have e2 : upd H4 q2 (.lst [.int (sg os z : Nat), .int (sg os o : Nat)]) q2 = some (.lst [.int (sg os z : Nat), .int (sg os o : Nat)]) := upd_same
      match ps, lp with
      | [p1, p2], _ =>
        refine ⟨Pt, q2, _, _, rfl, rfl, s5 _ _ eP4, e2, by show 4 ≤ sizeLine; decide, fun t' ht => ?_⟩
        have s6 := same_upd (o := HO.lst [V.ref p1, V.ref p2, V.int (sg os z : Nat), V.int (sg os o : Nat)]) ht
        exact k t' _ ((s4.trans s5).trans s6) ⟨p1, p2, upd_same, ((all 0 p1 rfl).l.same s5).same s6, ((all 1 p2 rfl).l.same s5).same s6⟩
end

/-! ### a reckoning made -/
open OQ (TabX RowX SeqAt)
open RK (Gd Mo Bij ren bes)
def spMade : Sp := fun vs H Q _ => ∃ (h c : Addr), vs = [.ref h] ∧ HandAt H h c ∧ ∀ (t : Addr) (n : Nat) (J M : Nat → Nat → Nat) (z o : Nat) (H' : Hp), HandAt H' h c → Kx h H H' → ToldL H' t n J M z o → 2 ≤ n → n ≤ 16 → Gd n J M z o → Q (.ref t) H'
theorem ToldL.kx {H H' : Hp} {h c t : Addr} {n : Nat} {J M : Nat → Nat → Nat} {z o : Nat} (m : ToldL H t n J M z o) (k : Kx h H H') (x : HandAt H h c) (n2 : 2 ≤ n) : ToldL H' t n J M z o := by
  obtain ⟨a, b, e, ta, tb⟩ := m
  refine ⟨a, b, k _ _ (fun y => ?_) e, k.tabL x n2 ta, k.tabL x n2 tb⟩
  obtain ⟨cs, p, q', m, kk, e1, _⟩ := x
  subst y
  rw [e] at e1
  simp [handV] at e1
section
variable {P : Program} {w : World} {K : PySem.W.Frag} {mg : Str → Option Value} {base : Heap}
theorem tab2 {H : Hp} {q1 q2 p : Addr} {r1 r2 : List V} {f : Nat → Nat → Nat} (h1 : H q1 = none) (h2 : upd H q1 (.lst r1) q2 = none) (h3 : upd (upd H q1 (.lst r1)) q2 (.lst r2) p = none) (e1 : r1 = rowV 2 (f 0)) (e2 : r2 = rowV 2 (f 1)) :
    TabXL (upd (upd (upd H q1 (.lst r1)) q2 (.lst r2)) p (.lst [.ref q1, .ref q2])) p 2 f ∧ Same H (upd (upd (upd H q1 (.lst r1)) q2 (.lst r2)) p (.lst [.ref q1, .ref q2])) := by
  have s3 := same_upd (o := HO.lst [V.ref q1, V.ref q2]) h3
  have s2 := same_upd (o := HO.lst r2) h2
  have s1 := same_upd (o := HO.lst r1) h1
  refine ⟨⟨[q1, q2], rfl, upd_same, fun i r e => s3 _ _ ?_⟩, (s1.trans s2).trans s3⟩
  match i, e with
  | 0, e => cases e; exact s2 _ _ (by rw [upd_same, e1]; rfl)
  | 1, e => cases e; rw [upd_same, e2]; rfl
theorem tab3 {H : Hp} {q1 q2 q3 p : Addr} {r1 r2 r3 : List V} {f : Nat → Nat → Nat} (h1 : H q1 = none) (h2 : upd H q1 (.lst r1) q2 = none) (h3 : upd (upd H q1 (.lst r1)) q2 (.lst r2) q3 = none) (h4 : upd (upd (upd H q1 (.lst r1)) q2 (.lst r2)) q3 (.lst r3) p = none) (e1 : r1 = rowV 3 (f 0)) (e2 : r2 = rowV 3 (f 1)) (e3 : r3 = rowV 3 (f 2)) :
    TabXL (upd (upd (upd (upd H q1 (.lst r1)) q2 (.lst r2)) q3 (.lst r3)) p (.lst [.ref q1, .ref q2, .ref q3])) p 3 f ∧ Same H (upd (upd (upd (upd H q1 (.lst r1)) q2 (.lst r2)) q3 (.lst r3)) p (.lst [.ref q1, .ref q2, .ref q3])) := by
  have s4 := same_upd (o := HO.lst [V.ref q1, V.ref q2, V.ref q3]) h4
  have s3 := same_upd (o := HO.lst r3) h3
  have s2 := same_upd (o := HO.lst r2) h2
  have s1 := same_upd (o := HO.lst r1) h1
  refine ⟨⟨[q1, q2, q3], rfl, upd_same, fun i r e => s4 _ _ ?_⟩, ((s1.trans s2).trans s3).trans s4⟩
  match i, e with
  | 0, e => cases e; exact s3 _ _ (s2 _ _ (by rw [upd_same, e1]; rfl))
  | 1, e => cases e; exact s3 _ _ (by rw [upd_same, e2]; rfl)
  | 2, e => cases e; rw [upd_same, e3]; rfl
theorem ok_law_made (T : Top K mg) : FnOk P w K mg base CX0 4 T.f_law_made T.fd_law_made ["hand"] spMade := by
  refine T.F_law_made.ok sc_law_made (fun vs H Q E h => ?_) (fun cdv A outer s H vs Q E hr h => ?_)
  · obtain ⟨h, c, rfl, _⟩ := h; rfl
  · obtain ⟨h, c, rfl, hT, k⟩ := h
    refine ⟨_, (pss_cons (ps_set (i := 1) sc_law_made.nd rfl (Or.inl rfl) (pe_call (ok_law_draw T) (hr.mono (by decide)) (by rfl) T.g_law_draw T.F_law_draw.kp T.b_law_draw .nil pass0 (pa_cons (pv 0) (pa_cons pe_int pa_nil))))
 (pss_cons (ps_if (pt_cmpR op_eq (pv 1) pe_int (nomark _))
 (pss_one (ps_ret (pe_call (ok_law_chain T) (hr.mono (by decide)) (by rfl) T.g_law_chain T.F_law_chain.kp T.b_law_chain .nil pass0 (pa_cons (pe_lst (pa_cons (pe_lst (pa_cons pe_int (pa_cons pe_int pa_nil))) (pa_cons (pe_lst (pa_cons pe_int (pa_cons pe_int pa_nil))) pa_nil))) pa_nil))))
 pss_nil)
 (pss_cons (ps_if (pt_cmpR op_lt (pv 1) pe_int (nomark _))
 (pss_cons (ps_set (i := 2) sc_law_made.nd rfl (Or.inl rfl) (pe_call (ok_law_chain T) (hr.mono (by decide)) (by rfl) T.g_law_chain T.F_law_chain.kp T.b_law_chain .nil pass0 (pa_cons (pe_call (ok_law_products T) (hr.mono (by decide)) (by rfl) T.g_law_products T.F_law_products.kp T.b_law_products .nil pass0 (pa_cons (pv 0) pa_nil)) pa_nil)))
 (pss_cons (ps_if (pt_cmpR op_eq (pv 1) pe_int (nomark _))
 (pss_one (ps_ret (pe_call (ok_law_renamed T) (hr.mono (by decide)) (by rfl) T.g_law_renamed T.F_law_renamed.kp T.b_law_renamed .nil pass0 (pa_cons (pv 2) (pa_cons (pe_call (ok_law_order T) (hr.mono (by decide)) (by rfl) T.g_law_order T.F_law_order.kp T.b_law_order .nil pass0 (pa_cons (pv 0) (pa_cons (pe_callB RD.c_len (by rfl) T.n_len (by decide +kernel) (pa_cons (pe_ix ix_list (pv 2) pe_int (fun _ _ => rfl)) pa_nil)) pa_nil))) pa_nil)))))
 pss_nil)
 (pss_one (ps_ret (pv 2)))))
 pss_nil)
 (pss_cons (ps_if (pt_cmpR op_eq (pv 1) pe_int (nomark _))
 (pss_cons (ps_set (i := 3) sc_law_made.nd rfl (Or.inl rfl) (pe_call (ok_law_chain T) (hr.mono (by decide)) (by rfl) T.g_law_chain T.F_law_chain.kp T.b_law_chain .nil pass0 (pa_cons (pe_ix ix_list (pe_lst (pa_cons (pe_lst (pa_cons (pe_lst (pa_cons pe_int (pa_cons pe_int pa_nil))) (pa_cons (pe_lst (pa_cons pe_int (pa_cons pe_int pa_nil))) pa_nil))) (pa_cons (pe_lst (pa_cons (pe_lst (pa_cons pe_int (pa_cons pe_int (pa_cons pe_int pa_nil)))) (pa_cons (pe_lst (pa_cons pe_int (pa_cons pe_int (pa_cons pe_int pa_nil)))) (pa_cons (pe_lst (pa_cons pe_int (pa_cons pe_int (pa_cons pe_int pa_nil)))) pa_nil)))) pa_nil))) (pe_call (ok_law_draw T) (hr.mono (by decide)) (by rfl) T.g_law_draw T.F_law_draw.kp T.b_law_draw .nil pass0 (pa_cons (pv 0) (pa_cons pe_int pa_nil))) (fun _ _ => rfl)) pa_nil)))
 (pss_one (ps_ret (pe_call (ok_law_beside T) (hr.mono (by decide)) (by rfl) T.g_law_beside T.F_law_beside.kp T.b_law_beside .nil pass0 (pa_cons (pv 3) (pa_cons (pe_call (ok_law_chain T) (hr.mono (by decide)) (by rfl) T.g_law_chain T.F_law_chain.kp T.b_law_chain .nil pass0 (pa_cons (pe_call (ok_law_products T) (hr.mono (by decide)) (by rfl) T.g_law_products T.F_law_products.kp T.b_law_products .nil pass0 (pa_cons (pv 0) pa_nil)) pa_nil)) pa_nil))))))
 pss_nil)
 (pss_cons (ps_asg (pe_call (ok_law_monoid T) (hr.mono (by decide)) (by rfl) T.g_law_monoid T.F_law_monoid.kp T.b_law_monoid .nil pass0 (pa_cons (pv 0) pa_nil)) (pg_tup (by rfl) (pgs_cons (pg_name (i := 4) sc_law_made.nd rfl (Or.inl rfl)) (pgs_cons (pg_name (i := 5) sc_law_made.nd rfl (Or.inl rfl)) pgs_nil))))
 (pss_cons (ps_set (i := 2) sc_law_made.nd rfl (Or.inl rfl) (pe_call (ok_law_lots T) (hr.mono (by decide)) (by rfl) T.g_law_lots T.F_law_lots.kp T.b_law_lots .nil pass0 (pa_cons (pv 4) (pa_cons (pv 5) pa_nil))))
 (pss_cons (ps_if (pt_cmpR op_eq (pv 1) pe_int (nomark _))
 (pss_one (ps_ret (pe_call (ok_law_turned T) (hr.mono (by decide)) (by rfl) T.g_law_turned T.F_law_turned.kp T.b_law_turned .nil pass0 (pa_cons (pv 2) pa_nil))))
 pss_nil)
 (pss_cons (ps_if (pt_cmpR op_eq (pv 1) pe_int (nomark _))
 (pss_one (ps_ret (pe_call (ok_law_renamed T) (hr.mono (by decide)) (by rfl) T.g_law_renamed T.F_law_renamed.kp T.b_law_renamed .nil pass0 (pa_cons (pv 2) (pa_cons (pe_call (ok_law_order T) (hr.mono (by decide)) (by rfl) T.g_law_order T.F_law_order.kp T.b_law_order .nil pass0 (pa_cons (pv 0) (pa_cons (pe_callB RD.c_len (by rfl) T.n_len (by decide +kernel) (pa_cons (pe_ix ix_list (pv 2) pe_int (fun _ _ => rfl)) pa_nil)) pa_nil))) pa_nil)))))
 pss_nil)
 (pss_cons (ps_if (pt_cmpR op_eq (pv 1) pe_int (nomark _))
 (pss_one (ps_ret (pe_call (ok_law_beside T) (hr.mono (by decide)) (by rfl) T.g_law_beside T.F_law_beside.kp T.b_law_beside .nil pass0 (pa_cons (pe_call (ok_law_chain T) (hr.mono (by decide)) (by rfl) T.g_law_chain T.F_law_chain.kp T.b_law_chain .nil pass0 (pa_cons (pe_lst (pa_cons (pe_lst (pa_cons pe_int (pa_cons pe_int pa_nil))) (pa_cons (pe_lst (pa_cons pe_int (pa_cons pe_int pa_nil))) pa_nil))) pa_nil)) (pa_cons (pv 2) pa_nil)))))
 pss_nil)
 (pss_one (ps_ret (pv 2)))))))))))), ?_⟩
    walk_at "tx"
    refine ⟨h, c, 9, rfl, hT, by decide, log2_lt (by decide), fun kd H1 k0 k9 hT1 b1 => ?_⟩
    have k1 : Kx h H H1 := b1.kx
    clear b1 hT
    walk_at "tx"
    refine RD.iteD (fun c0 => ?_) (fun c0 => ?_)
    · walk_at "tx"
      refine ⟨by show 2 ≤ sizeLine; decide, fun q1 hq1 => ?_⟩
      walk_at "tx"
      refine ⟨by show 2 ≤ sizeLine; decide, fun q2 hq2 => ?_⟩
      walk_at "tx"
      refine ⟨by show 2 ≤ sizeLine; decide, fun p hp => ?_⟩
      obtain ⟨tp, sp⟩ := tab2 (f := min) hq1 hq2 hp rfl rfl
      refine ⟨p, 2, min, rfl, tp, by omega, by omega, fun t H2 s2 tl => ?_⟩
      exact k t 2 _ _ _ _ H2 (hT1.same (sp.trans s2)) (k1.trans (Same.kx (sp.trans s2))) tl (by omega) (by omega) (RK.gd_min (by omega))
    walk_at "tx"
    refine RD.iteD (fun c1 => ?_) (fun c1 => ?_)
    · walk_at "tx"
      refine ⟨h, c, rfl, hT1, fun p n M H2 hT2 k2 tp n2 n5 gd => ?_⟩
      walk_at "tx"
      refine ⟨p, n, M, rfl, tp, by omega, by omega, fun t H3 s3 tl => ?_⟩
      replace hT2 := hT2.same s3
      replace k2 := (k1.trans k2).trans (Same.kx s3)
      walk_at "tx"
      refine RD.iteD (fun c2 => ?_) (fun c2 => ?_)
      · obtain ⟨a, b, et, ta, tb⟩ := id tl
        walk_at "tx"
        refine ta.x.len ?_
        walk_at "tx"
        refine ⟨h, c, n, rfl, hT2, by omega, fun q os H4 hT4 k4 eq pm => ?_⟩
        walk_at "tx"
        refine ⟨t, q, os, n, max, M, 0, n - 1, rfl, tl.kx k4 hT2 n2, eq, pm, by omega, gd.zn, gd.on, gd.jn, gd.mn, fun t' H5 s5 tl' => ?_⟩
        exact k t' n _ _ _ _ H5 (hT4.same s5) ((k2.trans k4).trans (Same.kx s5)) tl' n2 (by omega) (gd.renamed (perm_bij pm))
      · walk_at "tx"
        exact k t n _ _ _ _ H3 hT2 k2 tl n2 (by omega) gd
    walk_at "tx"
    refine RD.iteD (fun c4 => ?_) (fun c4 => ?_)
    · walk_at "tx"
      refine ⟨by show 2 ≤ sizeLine; decide, fun q1 hq1 => ?_⟩
      walk_at "tx"
      refine ⟨by show 2 ≤ sizeLine; decide, fun q2 hq2 => ?_⟩
      walk_at "tx"
      refine ⟨by show 2 ≤ sizeLine; decide, fun p hp => ?_⟩
      obtain ⟨tp, sp⟩ := tab2 (f := min) hq1 hq2 hp rfl rfl
      have hT2 := hT1.same sp
      have k2 := k1.trans (Same.kx sp)
      clear hq1 hq2 hp sp
      generalize upd (upd (upd H1 q1 (.lst [.int 0, .int 0])) q2 (.lst [.int 0, .int 1])) p (.lst [.ref q1, .ref q2]) = H2 at *
      walk_at "tx"
      refine ⟨by show 3 ≤ sizeLine; decide, fun r1 hr1 => ?_⟩
      walk_at "tx"
      refine ⟨by show 3 ≤ sizeLine; decide, fun r2 hr2 => ?_⟩
      walk_at "tx"
      refine ⟨by show 3 ≤ sizeLine; decide, fun r3 hr3 => ?_⟩
      walk_at "tx"
      refine ⟨by show 3 ≤ sizeLine; decide, fun p' hp' => ?_⟩
      obtain ⟨tp', sp⟩ := tab3 (f := RK.cutP 3) hr1 hr2 hr3 hp' rfl rfl rfl
      replace tp := tp.same sp
      replace hT2 := hT2.same sp
      replace k2 := k2.trans (Same.kx sp)
      clear hr1 hr2 hr3 hp' sp
      generalize upd (upd (upd (upd H2 r1 (.lst [.int 0, .int 0, .int 0])) r2 (.lst [.int 0, .int 0, .int 1])) r3 (.lst [.int 0, .int 1, .int 2])) p' (.lst [.ref r1, .ref r2, .ref r3]) = H3 at *
      walk_at "tx"
      refine ⟨by show 2 ≤ sizeLine; decide, fun L hL => ?_⟩
      have sL := same_upd (o := HO.lst [V.ref p, V.ref p']) hL
      have eL : upd H3 L (.lst [.ref p, .ref p']) L = some (.lst [.ref p, .ref p']) := upd_same
      have nL := (hT2.ne hL).1
      replace tp := tp.same sL
      replace tp' := tp'.same sL
      replace hT2 := hT2.same sL
      replace k2 := k2.trans (Same.kx sL)
      clear sL
      generalize upd H3 L (.lst [.ref p, .ref p']) = H4 at *
      walk_at "tx"
      refine ⟨h, c, 2, rfl, hT2, by decide, log2_lt (by decide), fun r H5 r0 r2' hT5 b5 => ?_⟩
      obtain ⟨r, rfl⟩ := Int.eq_ofNat_of_zero_le r0
      have eL5 := (b5 L nL).trans eL
      obtain ⟨y, m, f, ey, ty, m2, m3, gm⟩ : ∃ y m f, [V.ref p, V.ref p'][r]? = some (.ref y) ∧ TabXL H5 y m f ∧ 2 ≤ m ∧ m ≤ 3 ∧ Gd m max f 0 (m - 1) := by
        have : r < 2 := by omega
        match r, this with
        | 0, _ => exact ⟨p, 2, min, rfl, b5.kx.tabL hT2 (by omega) tp, by omega, by omega, RK.gd_min (by omega)⟩
        | 1, _ => exact ⟨p', 3, RK.cutP 3, rfl, b5.kx.tabL hT2 (by omega) tp', by omega, by omega, RK.gd_cut (by omega)⟩
      have k5 := k2.trans b5.kx
      clear b5 hT2 k2 tp tp'
      walk_at "tx"
      refine RD.d_ixL (SqL.of eL5) (atI_nat ey) ?_
      walk_at "tx"
      refine ⟨y, m, f, rfl, ty, by omega, by omega, fun t H6 s6 tl => ?_⟩
      replace hT5 := hT5.same s6
      replace k5 := k5.trans (Same.kx s6)
      walk_at "tx"
      refine ⟨h, c, rfl, hT5, fun p2 n M H7 hT7 k7 tp2 n2 n5 gd => ?_⟩
      walk_at "tx"
      refine ⟨p2, n, M, rfl, tp2, by omega, by omega, fun t2 H8 s8 tl2 => ?_⟩
      walk_at "tx"
      have nm : m * n ≤ 3 * 5 := Nat.mul_le_mul m3 n5
      have nm2 : 2 * 2 ≤ m * n := Nat.mul_le_mul m2 n2
      refine ⟨t, t2, m, n, max, f, max, M, 0, m - 1, 0, n - 1, rfl, (tl.kx k7 hT5 m2).same s8, tl2, by omega, by omega, by omega, fun t3 H9 s9 tl3 => ?_⟩
      exact k t3 (m * n) _ _ _ _ H9 ((hT7.same s8).same s9) ((k5.trans k7).trans (Same.kx (s8.trans s9))) tl3 (by omega) (by omega) (gm.beside gd)
    walk_at "tx"
    refine ⟨h, c, rfl, hT1, fun t n P o H2 hT2 k2 mt n2 n3 mo => ?_⟩
    obtain ⟨b, et, tb⟩ := id mt
    refine ⟨t, [.ref b, .int o], rfl, SqT.of et, rfl, .ref b, [.int o], rfl, .int o, [], rfl, rfl, ?_⟩
    walk_at "tx"
    refine ⟨b, n, o, P, rfl, tb, n3, mo, fun t1 H3 s3 tl => ?_⟩
    replace hT2 := hT2.same s3
    replace k2 := (k1.trans k2).trans (Same.kx s3)
    have gd := mo.lots
    have n8 : 2 ^ n ≤ 8 := Nat.pow_le_pow_right (n := 2) (by omega) n3
    have n4 : 4 ≤ 2 ^ n := Nat.pow_le_pow_right (n := 2) (i := 2) (by omega) n2
    generalize 2 ^ n = N at *
    walk_at "tx"
    refine RD.iteD (fun c5 => ?_) (fun c5 => ?_)
    · walk_at "tx"
      refine ⟨t1, N, _, _, _, _, rfl, tl, by omega, fun t2 H4 s4 tl2 => ?_⟩
      exact k t2 N _ _ _ _ H4 (hT2.same s4) (k2.trans (Same.kx s4)) tl2 (by omega) (by omega) gd.turned
    walk_at "tx"
    refine RD.iteD (fun c6 => ?_) (fun c6 => ?_)
    · obtain ⟨a', b', et', ta, tb'⟩ := id tl
      walk_at "tx"
      refine ta.x.len ?_
      walk_at "tx"
      refine ⟨h, c, N, rfl, hT2, by omega, fun q os H4 hT4 k4 eq pm => ?_⟩
      walk_at "tx"
      refine ⟨t1, q, os, N, _, _, _, _, rfl, tl.kx k4 hT2 (by omega), eq, pm, by omega, gd.zn, gd.on, gd.jn, gd.mn, fun t' H5 s5 tl' => ?_⟩
      exact k t' N _ _ _ _ H5 (hT4.same s5) ((k2.trans k4).trans (Same.kx s5)) tl' (by omega) (by omega) (gd.renamed (perm_bij pm))
    walk_at "tx"
    refine RD.iteD (fun c7 => ?_) (fun c7 => ?_)
    · walk_at "tx"
      refine ⟨by show 2 ≤ sizeLine; decide, fun q1 hq1 => ?_⟩
      walk_at "tx"
      refine ⟨by show 2 ≤ sizeLine; decide, fun q2 hq2 => ?_⟩
      walk_at "tx"
      refine ⟨by show 2 ≤ sizeLine; decide, fun p hp => ?_⟩
      obtain ⟨tp, sp⟩ := tab2 (f := min) hq1 hq2 hp rfl rfl
      refine ⟨p, 2, min, rfl, tp, by omega, by omega, fun t2 H4 s4 tl2 => ?_⟩
      walk_at "tx"
      refine ⟨t2, t1, 2, N, _, _, _, _, _, _, _, _, rfl, tl2, (tl.same sp).same s4, by omega, by omega, by omega, fun t3 H5 s5 tl3 => ?_⟩
      have ss := (sp.trans s4).trans s5
      exact k t3 (2 * N) _ _ _ _ H5 (hT2.same ss) (k2.trans (Same.kx ss)) tl3 (by omega) (by omega) ((RK.gd_min (n := 2) (by omega)).beside gd)
    · walk_at "tx"
      exact k t1 N _ _ _ _ H3 hT2 k2 tl (by omega) (by omega) gd
end

theorem same_made {H : Hp} {x dx C : Addr} (nx : H x = none) (ndx : H dx = none) (ne : dx ≠ x) : Same H (upd (upd H dx (.own x)) x (.ins C dx [])) := same_put (same_upd ndx) nx

/-! ### rows told -/
open OQ (TabX RowX SeqAt)
section
variable {P : Program} {w : World} {K : PySem.W.Frag} {mg : Str → Option Value} {base : Heap}
def spRows32 (K : PySem.W.Frag) : Sp := fun vs H Q _ => ∃ (a : Addr) (n : Nat) (f : Nat → Nat → Nat), vs = [.ref a] ∧ TabX K H a n f ∧ n ≤ 16 ∧ ∀ t H', Same H H' → TabXT K H' t n f → Q (.ref t) H'
theorem ok_law_rows (T : Top K mg) : FnOk P w K mg base CX0 1 T.f_law_rows T.fd_law_rows ["rows"] (spRows32 K) := by
  refine T.F_law_rows.ok sc_law_rows (fun vs H Q E h => ?_) (fun cdv A outer s H vs Q E hr h => ?_)
  · obtain ⟨a, n, f, rfl, _⟩ := h; rfl
  · obtain ⟨a, n, f, rfl, tj, n16, k⟩ := h
    refine ⟨_, (pss_one (ps_ret (pe_callTy (OQ.tupK K) (by rfl) T.n_tuple (by decide +kernel) (pa_cons (pe_lc (own := [("row", 1)]) (g := (gName 1)) (tt := tYes) rfl sc_law_rows.nd (OQ.pi_seq (pv 0)) (blkOk_by (own := [("row", 1)]) (N := ["rows", "row"]) (sc := defScope s_law_rows) (by decide +kernel)) (fun _ _ _ _ _ => (pg_name (i := 1) sc_law_rows.nd rfl (Or.inl rfl))) (fun _ _ _ _ _ => pts_nil) (fun _ _ _ _ _ => (pe_callTy (OQ.tupK K) (by rfl) T.n_tuple (by decide +kernel) (pa_cons (pv 1) pa_nil)))) pa_nil)))), ?_⟩
    obtain ⟨rs, len, sa, rows⟩ := id tj
    walk_at "tx"
    refine OQ.d_seqVar rfl sa (fun W G hw hG => fun D hD => ?_)
    rw [List.length_map, len] at hw
    refine lc_it hw (fun i H' => Same H H' ∧ ∃ us : List Addr, us.length = i ∧ H' D = some (.lst (us.map V.ref)) ∧ ∀ (j : Nat) (u : Addr), us[j]? = some u → SqT K H' u ((List.range n).map fun c => V.int (f j c : Nat))) ⟨same_upd hD, [], rfl, upd_same, (fun j u e => nomatch e)⟩ (fun i H' _ q => hG _ q.1) ?_ ?_
    · rintro i y H' H'' il ⟨s1, us, lu, eD, all⟩ ⟨rfl, e2⟩
      have ir : i < rs.length := by rw [len]; exact il
      rw [List.getElem?_map, List.getElem?_eq_getElem ir] at e2
      cases e2
      walk_at "tx"
      refine OQ.d_tupSeq (OQ.SeqAt.same (rows i _ (List.getElem?_eq_getElem ir)) s1) (fun H3 t s3 sq => ?_)
      have eD3 := s3 _ _ eD
      refine ⟨_, eD3, by rw [List.length_map, lu]; exact Nat.lt_of_lt_of_le il (Nat.le_trans n16 (by decide)), same_put (s1.trans s3) hD, us ++ [t], by rw [List.length_append, lu]; rfl, by rw [upd_same, List.map_append]; rfl, fun j u e => ?_⟩
      by_cases lj : j < us.length
      · rw [List.getElem?_append_left lj] at e
        exact sqT_lst (OQ.sqT_same (all j u e) s3) eD3
      · have q : j = i := by
          have := (List.getElem?_eq_some_iff.mp e).1
          rw [List.length_append, lu] at this
          simp at this
          omega
        subst q
        rw [List.getElem?_append_right (by omega), lu, Nat.sub_self] at e
        cases e
        exact sqT_lst sq eD3
    · rintro H' ⟨s1, us, lu, eD, all⟩
      walk_at "tx"
      refine OQ.d_tupSeq (.inl (SqL.of eD)) (fun H3 q s3 sq => ?_)
      exact k q _ (s1.trans s3) ⟨us, lu, sq, fun j u e => OQ.sqT_same (all j u e) s3⟩
/-- whether the reckoning is the one of these tables -/
def spTold32 (K : PySem.W.Frag) (C : Addr) : Sp := fun vs H Q _ => ∃ (x t a b : Addr) (n : Nat) (J M : Nat → Nat → Nat) (z o : Nat), vs = [.ref x, .ref t] ∧ RekF K C H x n J M z o ∧ H t = some (.lst [.ref a, .ref b, .int z, .int o]) ∧ TabX K H a n J ∧ TabX K H b n M ∧ ∀ H', Same H H' → Q (.bl true) H'
theorem ok_law_is_told (T : Top K mg) : FnOk P w K mg base CX0 14 T.f_law_is_told T.fd_law_is_told ["reckoning", "told"] (spTold32 K T.C_Reckoning) := by
  refine T.F_law_is_told.ok sc_law_is_told (fun vs H Q E h => ?_) (fun cdv A outer s H vs Q E hr h => ?_)
  · obtain ⟨x, t, a, b, n, J, M, z, o, rfl, _⟩ := h; rfl
  · obtain ⟨x, t, a, b, n, J, M, z, o, rfl, rf, et, ta, tb, k⟩ := h
    obtain ⟨_, _, _, _, _, _, _, _, _, _, _, _, eR, n2, n16, zn, on, wj, wp⟩ := id rf
    refine ⟨_, (pss_cons (ps_if (PW.pt (pw_or (pt_not (pt_val (pe_callB call_isi (by rfl) T.n_isinstance (by decide +kernel) (pa_cons (pv 0) (pa_cons (pe_glob (v := V.ref T.C_Reckoning) (by rfl) T.g_Reckoning rfl) pa_nil))))) (pw_or1 (pt_cmpR (op_neD hr.units) (pe_fld (pv 0) (by rfl)) (pe_call (ok_law_rows T) (hr.mono (by decide)) (by rfl) T.g_law_rows T.F_law_rows.kp T.b_law_rows .nil pass0 (pa_cons (pe_ix ix_list (pv 1) pe_int (fun _ _ => rfl)) pa_nil)) (nomark _)))))
 (pss_one (ps_ret pe_bl))
 pss_nil)
 (pss_cons (ps_if (PW.pt (pw_or (pt_cmpR (op_neD hr.units) (pe_fld (pv 0) (by rfl)) (pe_call (ok_law_rows T) (hr.mono (by decide)) (by rfl) T.g_law_rows T.F_law_rows.kp T.b_law_rows .nil pass0 (pa_cons (pe_ix ix_list (pv 1) pe_int (fun _ _ => rfl)) pa_nil)) (nomark _)) (pw_or (pt_cmpR op_ne (pe_fld (pv 0) (by rfl)) (pe_ix ix_list (pv 1) pe_int (fun _ _ => rfl)) (nomark _)) (pw_or1 (pt_cmpR op_ne (pe_fld (pv 0) (by rfl)) (pe_ix ix_list (pv 1) pe_int (fun _ _ => rfl)) (nomark _))))))
 (pss_one (ps_ret pe_bl))
 pss_nil)
 (pss_one (ps_ret (pe_or (pe_cmpR op_gt (pe_callB RD.c_len (by rfl) T.n_len (by decide +kernel) (pa_cons (pe_ix ix_list (pv 1) pe_int (fun _ _ => rfl)) pa_nil)) pe_int (nomark _)) (pe_one (pe_cmpR (OQ.op_ownEq (ok_Reckoning__eq T) (hr.mono (by decide)) T.m_Reckoning__eq.at_ T.m_Reckoning__eq.fn T.b_Reckoning__eq pass0) (pv 0) (pe_make T.M_Reckoning (ok_Reckoning__init T) (hr.mono (by decide)) (by rfl) T.g_Reckoning T.b_Reckoning__init .nil OQ.passN (pa_cons (pe_ix ix_list (pv 1) pe_int (fun _ _ => rfl)) (pa_cons (pe_ix ix_list (pv 1) pe_int (fun _ _ => rfl)) (pa_cons (pe_ix ix_list (pv 1) pe_int (fun _ _ => rfl)) (pa_cons (pe_ix ix_list (pv 1) pe_int (fun _ _ => rfl)) pa_nil))))) (nomark _)))))))), ?_⟩
    walk_at "tx"
    refine RD.d_isi (.own _) (rfTy T rf) T.kRR ?_
    refine ⟨true, rfl, RD.d_iteNT ?_⟩
    walk_at "tx"
    refine rfJ T rf (fun jt tj => ?_)
    walk_at "tx"
    refine ⟨a, n, J, rfl, ta, n16, fun u H1 s1 tu => ?_⟩
    refine tab_ne (tj.same s1) tu ?_
    rw [decide_eq_true rfl]
    replace et := s1 _ _ et
    replace rf := rf.same s1
    replace ta := ta.same s1
    replace tb := tb.same s1
    walk_at "tx"
    refine rfP T rf (fun pt tp => ?_)
    walk_at "tx"
    refine ⟨b, n, M, rfl, tb, n16, fun u H2 s2 tu => ?_⟩
    refine tab_ne (tp.same s2) tu ?_
    rw [decide_eq_true rfl]
    replace et := s2 _ _ et
    replace rf := rf.same s2
    replace ta := ta.same s2
    replace tb := tb.same s2
    walk_at "tx"
    refine rfN T rf ?_
    walk_at "tx"
    rw [decide_eq_true rfl]
    walk_at "tx"
    refine rfO T rf ?_
    walk_at "tx"
    rw [decide_eq_true rfl]
    walk_at "tx"
    refine ta.len ?_
    walk_at "tx"
    refine RD.iteD (fun c => ?_) (fun c => ?_)
    · exact k _ (s1.trans s2)
    walk_at "tx"
    intro y dy ny ndy ne
    have s3 := same_made (C := T.C_Reckoning) ny ndy ne
    refine spReck_good (n := n) (z := z) (o := o) (J := J) (M := M) upd_same (ta.same s3) (tb.same s3) n2 n16 zn on wj wp (fun _ H4 kx f => ⟨rfl, ?_⟩) (fun f e => by rw [eR] at e; cases e)
    have s14 : Same H2 H4 := fun b u e => kx _ _ (ne_of_none e ny) (s3 _ _ e)
    replace rf := rf.same s14
    obtain ⟨dx, _, _, _, _, _, ex, _⟩ := id rf
    refine ⟨x, dx, _, _, rfl, ex, rfTy T f, T.nfR, ?_⟩
    refine ⟨x, y, n, J, M, z, o, n, J, M, z, o, rfl, rf, f, ?_⟩
    rw [decide_eq_true ⟨rfl, rfl, rfl, rfl⟩]
    exact k _ ((s1.trans s2).trans s14)
end

/-! ### turned, beside -/
open OQ (TabX RowX SeqAt)
open RK (Gd bes FltAt)
/-- a thing that is no reckoning -/
def NoR (K : PySem.W.Frag) (C : Addr) (H : Hp) (v : V) : Prop := ∃ t, TyX K H v t ∧ PySem.W.kitOne K t (.ref C) = some false
theorem d_zip {K : PySem.W.Frag} {te : TE} {σ : L2.St} {H : Hp} {Q : VK} (h : te σ H fun v H1 => ∃ a rows vss n, v = .ref a ∧ (SqT K H1 a (rows.map V.ref) ∨ SqL K H1 a (rows.map V.ref)) ∧ ZN.RowsAt K H1 rows vss ∧ 0 < rows.length ∧ rows.length ≤ 16 ∧ (∀ vs ∈ vss, vs.length = n) ∧
  ∀ S T : Nat, H1 S = none → (∀ i, i < n → H1 (T + i) = none) → S < T → Q (.ref S) (ZN.zipH H1 S T vss n)) : ZN.tZip K te σ H Q := h
theorem rows_at {F : Addr → List V → Prop} {g : Nat → List V} : ∀ (rs : List Addr) (s : Nat), (∀ (i : Nat) r, rs[i]? = some r → F r (g (s + i))) → Paired F rs ((List.range' s rs.length).map g)
  | [], _, _ => .nil
  | r :: rs, s, h => by
    rw [List.length_cons, List.range'_succ, List.map_cons]
    refine .cons (h 0 r rfl) (rows_at rs (s + 1) fun i r' e => ?_)
    have := h (i + 1) r' (by simpa using e)
    rwa [show s + (i + 1) = s + 1 + i by omega] at this
/-- what list(zip(*rows)) gives of a table: the table turned -/
theorem zip_tab {K : PySem.W.Frag} {H : Hp} {n S T : Nat} {M : Nat → Nat → Nat} (nS : H S = none) (nT : ∀ i, i < n → H (T + i) = none) (l : S < T) :
    TabX K (ZN.zipH H S T ((List.range n).map fun i => (List.range n).map fun j => V.int (M i j : Nat)) n) S n (fun a b => M b a) := by
  refine ⟨(List.range n).map fun i => (T + i : Nat), by simp, .inl (SqL.of (by rw [ZN.zipH_S, List.map_map]; rfl)), fun i r e => ?_⟩
  have hi : i < n := by
    have := (List.getElem?_eq_some_iff.mp e).1
    simpa using this
  rw [List.getElem?_map, List.getElem?_range hi] at e
  cases e
  refine .inr (SqT.of ?_)
  show ZN.zipH H S T _ n (T + i) = _
  rw [ZN.zipH_T l hi]
  congr 2
  unfold ZN.colV
  rw [List.map_map]
  refine List.map_congr_left fun a ha => ?_
  show ((List.range n).map fun j => V.int (M a j : Nat)).getD i .non = _
  simp [hi]
def ObsN (H : Hp) (D : Addr) (k : Nat) (g : Nat → HO) : Prop := ∃ us : List Addr, us.length = k ∧ H D = some (.lst (us.map V.ref)) ∧ ∀ (j : Nat) (u : Addr), us[j]? = some u → u ≠ D ∧ H u = some (g j)
theorem obsN_zero {H : Hp} {D : Addr} {g : Nat → HO} : ObsN (upd H D (.lst [])) D 0 g := ⟨[], rfl, upd_same, (fun _ _ e => nomatch e)⟩
theorem obsN_step {H H' H'' : Hp} {D q : Addr} {k : Nat} {g : Nat → HO} (hD : H D = none) (s1 : Same H H') (r : ObsN H' D k g) (hq : H' q = none) (s2 : Same H' H'') (hk : k ≤ 1000) (eq : H'' q = some (g k)) :
    ∃ acc, H'' D = some (.lst acc) ∧ acc.length < sizeLine ∧ Same H (upd H'' D (.lst (acc ++ [V.ref q]))) ∧ ObsN (upd H'' D (.lst (acc ++ [V.ref q]))) D (k + 1) g := by
  obtain ⟨us, lu, eD, all⟩ := r
  have nD : q ≠ D := fun z => by rw [z, eD] at hq; cases hq
  refine ⟨us.map V.ref, s2 _ _ eD, by rw [List.length_map, lu]; exact Nat.lt_of_le_of_lt hk (by decide), same_put (s1.trans s2) hD, us ++ [q], by rw [List.length_append, lu]; rfl, by rw [upd_same, List.map_append]; rfl, fun j u e => ?_⟩
  by_cases lj : j < us.length
  · rw [List.getElem?_append_left lj] at e
    obtain ⟨h1, h2⟩ := all j u e
    exact ⟨h1, by rw [upd_ne h1]; exact s2 _ _ h2⟩
  · have : j = us.length := by
      have := (List.getElem?_eq_some_iff.mp e).1
      rw [List.length_append] at this
      simp at this
      omega
    subst this
    rw [List.getElem?_append_right (by omega), Nat.sub_self] at e
    cases e
    exact ⟨nD, by rw [upd_ne nD, eq, lu]⟩
def prG (m j : Nat) : HO := .tup [.int ((j / m : Nat) : Int), .int ((j % m : Nat) : Int)]
def spSBS (K : PySem.W.Frag) : Sp := fun vs H Q _ => ∃ (x y : Addr) (n m : Nat) (J J' : Nat → Nat → Nat), vs = [.ref x, .ref y] ∧ TabX K H x n J ∧ TabX K H y m J' ∧ 1 ≤ m ∧ 1 ≤ n ∧ n * m ≤ 16 ∧ ∀ p H', Same H H' → TabXL H' p (n * m) (bes m J J') → Q (.ref p) H'
def spChkT (K : PySem.W.Frag) (C CB : Addr) : Sp := fun vs H Q E => ∃ v, vs = [v] ∧ ((∃ (x n : Nat) (J M : Nat → Nat → Nat) (z o : Nat), v = .ref x ∧ RekF K C H x n J M z o ∧ Q .non H) ∨ (NoR K C H v ∧ ∀ d, H d = none → E (.ref CB) (some d) (upd H d (ErrD v))))
def spTurn (K : PySem.W.Frag) (C CB : Addr) : Sp := fun vs H Q E => ∃ v, vs = [v] ∧ ((∃ (x n : Nat) (J M : Nat → Nat → Nat) (z o : Nat), v = .ref x ∧ RekF K C H x n J M z o ∧ ∀ y H', Same H H' → RekF K C H' y n J (fun a b => M b a) z o → Q (.ref y) H') ∨
  (NoR K C H v ∧ ∀ d, H d = none → E (.ref CB) (some d) (upd H d (ErrD v))))
def spWE0 (K : PySem.W.Frag) : Sp := fun vs H Q _ => ∃ (a C : Addr), vs = [.ref a] ∧ OexC K C ∧ PySem.W.findIn K (.ref C) "value" = some none ∧ H a = some (exo a C none) ∧
  ∀ d, H d = none → d ≠ a → Q .non (upd (upd H d (exd d [("value", V.non)])) a (exo a C (some d)))
theorem d_mkO0 {K : PySem.W.Frag} {H : Hp} {C : Addr} {R : XK} (oc : OexC K C) (nv : PySem.W.findIn K (.ref C) "value" = some none) (k : ∀ d, H d = none → R (.ref C) (some d) (upd H d (ErrD .non))) :
    ([] : List V).length ≤ 1000 ∧ ∀ a, H a = none → spWE0 K (.ref a :: ([] ++ [])) (upd H a (exo a C none))
      (fun u H2 => u = .non ∧ ∃ (d : Addr) (fs : List (Str × V)), H2 a = some (exo a C (some d)) ∧ H2 d = some (exd d fs) ∧ H d = none ∧ R (.ref C) (some d) (upd (del H2 a) d (.xd fs))) (fun _ _ _ => False) := by
  obtain ⟨_, q⟩ := d_mkO (v := V.non) oc nv k
  refine ⟨by simp, fun a ha => ?_⟩
  obtain ⟨a', C', v', e, h1, h2, h3, h4⟩ := q a ha
  cases e
  exact ⟨a, C', rfl, h1, h2, h3, h4⟩
def spBeside (K : PySem.W.Frag) (C CB CM : Addr) : Sp := fun vs H Q E => ∃ v u, vs = [v, u] ∧ ((∃ (x n : Nat) (J M : Nat → Nat → Nat) (z o y m : Nat) (J' M' : Nat → Nat → Nat) (z' o' : Nat), v = .ref x ∧ u = .ref y ∧ RekF K C H x n J M z o ∧ RekF K C H y m J' M' z' o' ∧
    (n * m ≤ 16 → ∀ t H', Same H H' → RekF K C H' t (n * m) (bes m J J') (bes m M M') (z * m + z') (o * m + o') → Q (.ref t) H') ∧ (16 < n * m → ∀ d, H d = none → E (.ref CM) (some d) (upd H d (ErrD .non)))) ∨
  (NoR K C H v ∧ ∀ d, H d = none → E (.ref CB) (some d) (upd H d (ErrD v))) ∨
  (∃ (x n : Nat) (J M : Nat → Nat → Nat) (z o : Nat), v = .ref x ∧ RekF K C H x n J M z o ∧ NoR K C H u ∧ ∀ d, H d = none → E (.ref CB) (some d) (upd H d (ErrD u))))
section
variable {P : Program} {w : World} {K : PySem.W.Frag} {mg : Str → Option Value} {base : Heap}
theorem ok_TooMany__init (T : Top K mg) : FnOk P w K mg base CX0 2 T.f_TooMany__init T.fd_TooMany__init ["self"] (spWE0 K) := by
  refine T.F_TooMany__init.ok sc_TooMany__init (fun vs H Q E h => ?_) (fun cdv A outer s H vs Q E hr h => ?_)
  · obtain ⟨a, C, rfl, _⟩ := h; rfl
  · obtain ⟨a, C, rfl, oc, nv, ha, q⟩ := h
    refine ⟨_, (pss_one (ps_expr (OQ.pe_cdef (pe_glob (v := V.ref T.C_WayError) (by rfl) T.g_WayError rfl) T.c_WE (ok_WayError__init T) (hr.mono (by decide)) T.b_WayError__init pass0 (pa_cons (pv 0) (pa_cons pe_non pa_nil))))), ?_⟩
    walk_at "tx"
    refine ⟨rfl, ?_⟩
    walk_at "tx"
    exact ⟨a, C, .non, rfl, oc, nv, ha, q⟩
theorem ok_check_told (T : Top K mg) : FnOk P w K mg base (L2.CX P w) 4 T.f_check_told T.fd_check_told ["reckoning"] (spChkT K T.C_Reckoning T.C_BadReckoning) := by
  refine T.F_check_told.okX sc_check_told (fun vs H Q E h => ?_) (fun cdv A outer s H vs Q E hr h => ?_)
  · obtain ⟨v, rfl, _⟩ := h; rfl
  · obtain ⟨v, rfl, h⟩ := h
    refine ⟨_, (pss_one (ps_if (pt_not (pt_val (pe_callB call_isi (by rfl) T.n_isinstance (by decide +kernel) (pa_cons (pv 0) (pa_cons (pe_glob (v := V.ref T.C_Reckoning) (by rfl) T.g_Reckoning rfl) pa_nil)))))
 (pss_one (ps_raise rfl (takes_of rfl rfl rfl rfl) (pmk_oex T.oex_BadReckoning T.i_BadReckoning T.tI (ok_WayError__init T) (hr.mono (by decide)) T.b_WayError__init .nil pass0 (by rfl) T.g_BadReckoning (pa_cons (pv 0) pa_nil))))
 pss_nil)), ?_⟩
    walk_at "tx"
    rcases h with ⟨x, n, J, M, z, o, rfl, rf, k⟩ | ⟨⟨t, ty, kt⟩, kE⟩
    · refine RD.d_isi (.own _) (rfTy T rf) T.kRR ?_
      refine ⟨true, rfl, RD.d_iteNT ?_⟩
      walk_at "tx"
      exact k
    · refine RD.d_isi (.own _) ty kt ?_
      refine ⟨false, rfl, RD.d_iteNF ?_⟩
      walk_at "tx"
      exact d_mkO T.oex_BadReckoning T.v_BadReckoning fun d hd => kE d hd
theorem ok_turned (T : Top K mg) : FnOk P w K mg base (L2.CX P w) 14 T.f_turned T.fd_turned ["reckoning"] (spTurn K T.C_Reckoning T.C_BadReckoning) := by
  refine T.F_turned.okX sc_turned (fun vs H Q E h => ?_) (fun cdv A outer s H vs Q E hr h => ?_)
  · obtain ⟨v, rfl, _⟩ := h; rfl
  · obtain ⟨v, rfl, h⟩ := h
    refine ⟨_, (pss_cons (ps_expr (pe_call (ok_check_told T) (hr.mono (by decide)) (by rfl) T.g_check_told T.F_check_told.kp T.b_check_told .nil (passes_call (takes_of rfl rfl rfl rfl) (fun _ _ _ _ h => h)) (pa_cons (pv 0) pa_nil)))
 (pss_one (ps_ret (pe_make T.M_Reckoning (ok_Reckoning__init T) (hr.mono (by decide)) (by rfl) T.g_Reckoning T.b_Reckoning__init .nil (passes_call (takes_of rfl rfl rfl rfl) (fun _ _ _ _ h => h)) (pa_cons (pe_fld (pv 0) (by rfl)) (pa_cons (ZN.pe_listZip rfl (by rfl) T.n_list (by rfl) T.n_zip (pe_fld (pv 0) (by rfl))) (pa_cons (pe_fld (pv 0) (by rfl)) (pa_cons (pe_fld (pv 0) (by rfl)) pa_nil)))))))), ?_⟩
    walk_at "tx"
    rcases h with ⟨x, n, J, M, z, o, rfl, rf, k⟩ | ⟨nr, kE⟩
    · refine ⟨_, rfl, .inl ⟨x, n, J, M, z, o, rfl, rf, ?_⟩⟩
      obtain ⟨_, _, _, _, _, _, _, _, _, _, _, _, eR, n2, n16, zn, on, wj, wp⟩ := id rf
      walk_at "tx"
      refine rfJ T rf (fun jt tj => ?_)
      walk_at "tx"
      refine d_zip ?_
      walk_at "tx"
      refine rfP T rf (fun pt tp => ?_)
      obtain ⟨rs, l, e, q⟩ := id tp
      refine ⟨pt, rs, (List.range n).map fun i => (List.range n).map fun j => V.int (M i j : Nat), n, rfl, .inl e, ?_, by omega, by omega, by simp, fun S T0 nS nT ST => ?_⟩
      · have := rows_at (F := fun r vs => SqT K H r vs ∨ SqL K H r vs) (g := fun i => (List.range n).map fun j => V.int (M i j : Nat)) rs 0 (fun i r e => .inl (by rw [Nat.zero_add]; exact q i r e))
        rw [l, ← List.range_eq_range'] at this
        exact this
      have sz : Same H (ZN.zipH H S T0 ((List.range n).map fun i => (List.range n).map fun j => V.int (M i j : Nat)) n) := fun b u e => ZN.zipH_kp nS nT e
      have tz := zip_tab (K := K) (M := M) nS nT ST
      replace tj := tj.same sz
      replace rf := rf.same sz
      generalize ZN.zipH H S T0 ((List.range n).map fun i => (List.range n).map fun j => V.int (M i j : Nat)) n = H1 at *
      walk_at "tx"
      refine rfN T rf ?_
      walk_at "tx"
      refine rfO T rf ?_
      walk_at "tx"
      intro y dy ny ndy ne
      have s3 := same_made (C := T.C_Reckoning) ny ndy ne
      have gd := (Gd.of_rest zn on wj wp eR).turned.rest
      refine spReck_good (n := n) (z := z) (o := o) (J := J) (M := fun a b => M b a) upd_same (tj.x.same s3) (tz.same s3) n2 n16 zn on wj (fun a b ha hb => wp b a hb ha) (fun _ H4 kx f => ⟨rfl, ?_⟩) (fun f e => by rw [gd] at e; cases e)
      have s14 : Same H1 H4 := fun b u e => kx _ _ (ne_of_none e ny) (s3 _ _ e)
      exact k y H4 (sz.trans s14) f
    · exact ⟨_, rfl, .inr ⟨nr, kE⟩⟩
theorem ok_side_by_side (T : Top K mg) : FnOk P w K mg base CX0 1 T.f_side_by_side T.fd_side_by_side ["one", "other"] (spSBS K) := by
  refine T.F_side_by_side.ok sc_side_by_side (fun vs H Q E h => ?_) (fun cdv A outer s H vs Q E hr h => ?_)
  · obtain ⟨x, y, n, m, J, J', rfl, _⟩ := h; rfl
  · obtain ⟨x, y, n, m, J, J', rfl, tx, ty, m1, n1, nm, k⟩ := h
    refine ⟨_, (pss_cons (ps_set (i := 2) sc_side_by_side.nd rfl (Or.inr rfl) (pe_callB RD.c_len (by rfl) T.n_len (by decide +kernel) (pa_cons (pv 1) pa_nil)))
 (pss_cons (ps_set (i := 3) sc_side_by_side.nd rfl (Or.inr rfl) (pe_lc2 (own := [("a", 4), ("b", 5)]) (vs1 := [5]) (g := (gName 4)) (tt := tYes) (g1 := (gName 5)) (tt1 := tYes) rfl sc_side_by_side.nd (pi_range1 (by rfl) T.n_range (pa_cons (pe_callB RD.c_len (by rfl) T.n_len (by decide +kernel) (pa_cons (pv 0) pa_nil)) pa_nil)) (blkOk_by (own := [("a", 4), ("b", 5)]) (N := ["one", "other", "size", "pairs", "a", "b", "c", "d"]) (sc := defScope s_side_by_side) (by decide +kernel)) (by decide) (fun _ _ _ _ _ => (pg_name (i := 4) sc_side_by_side.nd rfl (by first | exact Or.inl rfl | exact Or.inr rfl))) (fun _ _ _ _ _ => pts_nil) (fun _ _ _ _ _ => (pi_range1 (by rfl) T.n_range (pa_cons (pv 2) pa_nil))) (fun _ _ _ _ _ => (pg_name (i := 5) sc_side_by_side.nd rfl (by first | exact Or.inl rfl | exact Or.inr rfl))) (fun _ _ _ _ _ => pts_nil) (fun _ _ _ _ _ => (pe_tup (pa_cons (pv 4) (pa_cons (pv 5) pa_nil))))))
 (pss_one (ps_ret (pe_lc (own := [("a", 4), ("b", 5)]) (g := (gTup K 2 (gCons (gName 4) (gCons (gName 5) gNil)))) (tt := tYes) rfl sc_side_by_side.nd (pi_list (pv 3)) (blkOk_by (own := [("a", 4), ("b", 5)]) (N := ["one", "other", "size", "pairs", "a", "b", "c", "d"]) (sc := defScope s_side_by_side) (by decide +kernel)) (fun _ _ _ _ _ => (pg_tup (by rfl) (pgs_cons (pg_name (i := 4) sc_side_by_side.nd rfl (by first | exact Or.inl rfl | exact Or.inr rfl)) (pgs_cons (pg_name (i := 5) sc_side_by_side.nd rfl (by first | exact Or.inl rfl | exact Or.inr rfl)) pgs_nil)))) (fun _ _ _ _ _ => pts_nil) (fun _ _ _ _ _ => (pe_lc (own := [("c", 6), ("d", 7)]) (g := (gTup K 2 (gCons (gName 6) (gCons (gName 7) gNil)))) (tt := tYes) rfl sc_side_by_side.nd (OQ.pi_listK K (pv 3)) (blkOk_by (own := [("c", 6), ("d", 7)]) (N := ["one", "other", "size", "pairs", "a", "b", "c", "d"]) (sc := _) (by kernel_rfl)) (fun _ _ _ _ _ => (pg_tup (by rfl) (pgs_cons (pg_name (i := 6) sc_side_by_side.nd rfl (by first | exact Or.inl rfl | exact Or.inr rfl)) (pgs_cons (pg_name (i := 7) sc_side_by_side.nd rfl (by first | exact Or.inl rfl | exact Or.inr rfl)) pgs_nil)))) (fun _ _ _ _ _ => pts_nil) (fun _ _ _ _ _ => (pe_op op_add (pe_op op_mul (pe_ix (OQ.ixA K) (pe_ix (OQ.ixA K) (pv 0) (pv 4) (fun _ _ => rfl)) (pv 6) (fun _ _ => rfl)) (pv 2)) (pe_ix (OQ.ixA K) (pe_ix (OQ.ixA K) (pv 1) (pv 5) (fun _ _ => rfl)) (pv 7) (fun _ _ => rfl))))))))))), ?_⟩
    have n16 : n ≤ 16 := Nat.le_trans (Nat.le_mul_of_pos_right n m1) nm
    have m16 : m ≤ 16 := Nat.le_trans (Nat.le_mul_of_pos_left m n1) nm
    walk_at "tx"
    refine ty.len ?_
    walk_at "tx"
    refine tx.len ?_
    walk_at "tx"
    refine ⟨n, rfl, by omega, by omega, fun D hD => ?_⟩
    refine OM.c2_range (lo := 0) (n := (n : Int).toNat) (fun a H' => Same H H' ∧ ObsN H' D (a * m) (prG m)) ⟨same_upd hD, by rw [Nat.zero_mul]; exact obsN_zero⟩ ?_ ?_
    · rintro a H1 ha ⟨s1, r1⟩
      have ha' : a < n := by omega
      have amm : a * m + m ≤ n * m := by rw [← Nat.succ_mul]; exact Nat.mul_le_mul_right m ha'
      walk_at "tx"
      refine ⟨m, rfl, by omega, by omega, ?_⟩
      refine OM.c2_range (lo := 0) (n := (m : Int).toNat) (fun b H' => Same H H' ∧ ObsN H' D (a * m + b) (prG m)) ⟨s1, r1⟩ ?_ ?_
      · rintro b H2 hb ⟨s2, r2⟩
        have hb' : b < m := by omega
        walk_at "tx"
        refine ⟨by show 2 ≤ sizeLine; decide, fun q hq => ?_⟩
        have ep : HO.tup [V.int (0 + (a : Int)), V.int (0 + (b : Int))] = prG m (a * m + b) := by
          unfold prG
          rw [RK.bes_div hb', RK.bes_mod hb', Int.zero_add, Int.zero_add]
        obtain ⟨acc, q1, q2, q3, q4⟩ := obsN_step (H'' := upd H2 q (.tup [V.int (0 + (a : Int)), V.int (0 + (b : Int))])) hD s2 r2 hq (same_upd hq) (by omega) (by rw [upd_same, ep])
        refine ⟨acc, q1, q2, q3, q4⟩
      · rintro H2 ⟨s2, r2⟩
        rw [Int.toNat_natCast, ← Nat.succ_mul] at r2
        exact ⟨s2, r2⟩
    rintro H1 ⟨s1, us, lu, eD, all⟩
    rw [Int.toNat_natCast] at lu
    have m0 : 0 < m := m1
    have lx : (us.map V.ref).length = n * m := by rw [List.length_map, lu]
    have usG : ∀ (H2 : Hp) (j : Nat) (v : V), Same H1 H2 → (us.map V.ref)[j]? = some v → j < n * m ∧ ∃ u, v = .ref u ∧ H2 u = some (prG m j) := fun H2 j v s e => by
      rw [List.getElem?_map] at e
      cases eu : us[j]? with
      | none => rw [eu] at e; cases e
      | some u =>
        rw [eu] at e
        cases e
        exact ⟨by rw [← lu]; exact (List.getElem?_eq_some_iff.mp eu).1, u, rfl, s _ _ (all j u eu).2⟩
    walk_at "tx"
    intro D2 hD2
    refine lc_list (K := K) (xs := us.map V.ref) (fun i H' => Same H1 H' ∧ RowsN H' D2 (n * m) i (bes m J J')) ⟨same_upd hD2, rowsN_zero⟩ (fun i H' _ p => SqL.of (p.1 _ _ eD)) ?_ ?_
    · rintro i v H2 ev ⟨s2, r2⟩
      obtain ⟨hi, u, rfl, eu⟩ := usG H2 i v s2 ev
      have di : i / m < n := Nat.div_lt_of_lt_mul (by rw [Nat.mul_comm]; exact hi)
      have mi : i % m < m := Nat.mod_lt _ m0
      refine RD.d_two rfl (SqT.of eu) ?_
      walk_at "tx"
      refine ⟨D, rfl, ⟨_, SqL.of (s2 _ _ eD)⟩, fun D3 hD3 => ?_⟩
      refine lc_list (K := K) (xs := us.map V.ref) (fun j H' => Same H2 H' ∧ H' D3 = some (.lst ((List.range j).map fun c => V.int (bes m J J' i c : Nat)))) ⟨same_upd hD3, upd_same⟩ (fun j H' _ p => SqL.of (p.1 _ _ (s2 _ _ eD))) ?_ ?_
      · rintro j v H3 ev' ⟨s3, e3⟩
        obtain ⟨hj, u', rfl, eu'⟩ := usG H3 j v (s2.trans s3) ev'
        have dj : j / m < n := Nat.div_lt_of_lt_mul (by rw [Nat.mul_comm]; exact hj)
        have mj : j % m < m := Nat.mod_lt _ m0
        have tx3 := tx.same ((s1.trans s2).trans s3)
        have ty3 := ty.same ((s1.trans s2).trans s3)
        refine RD.d_two rfl (SqT.of eu') ?_
        walk_at "tx"
        refine OQ.xT tx3 rfl di fun r hr' => ?_
        walk_at "tx"
        refine OQ.xR hr' rfl dj ?_
        walk_at "tx"
        refine OQ.xT ty3 rfl mi fun r' hr'' => ?_
        walk_at "tx"
        refine OQ.xR hr'' rfl mj ?_
        walk_at "tx"
        exact rowPutN (g := fun c => bes m J J' i c) hD3 s3 (by omega) e3 (by show V.int _ = V.int ((J (i / m) (j / m) * m + J' (i % m) (j % m) : Nat) : Int); rw [Int.natCast_add, Int.natCast_mul])
      · rintro H3 ⟨s3, e3⟩
        rw [lx] at e3
        exact rowsN_step hD2 s2 r2 hD3 s3 (by omega) e3
    · rintro H2 ⟨s2, r2⟩
      rw [lx] at r2
      exact k D2 H2 (s1.trans s2) (rowsN_end r2)
theorem ok_beside (T : Top K mg) : FnOk P w K mg base (L2.CX P w) 14 T.f_beside T.fd_beside ["one", "other"] (spBeside K T.C_Reckoning T.C_BadReckoning T.C_TooMany) := by
  refine T.F_beside.okX sc_beside (fun vs H Q E h => ?_) (fun cdv A outer s H vs Q E hr h => ?_)
  · obtain ⟨v, u, rfl, _⟩ := h; rfl
  · obtain ⟨v, u, rfl, h⟩ := h
    refine ⟨_, (pss_cons (ps_expr (pe_call (ok_check_told T) (hr.mono (by decide)) (by rfl) T.g_check_told T.F_check_told.kp T.b_check_told .nil (passes_call (takes_of rfl rfl rfl rfl) (fun _ _ _ _ h => h)) (pa_cons (pv 0) pa_nil)))
 (pss_cons (ps_expr (pe_call (ok_check_told T) (hr.mono (by decide)) (by rfl) T.g_check_told T.F_check_told.kp T.b_check_told .nil (passes_call (takes_of rfl rfl rfl rfl) (fun _ _ _ _ h => h)) (pa_cons (pv 1) pa_nil)))
 (pss_cons (ps_if (pt_cmpR op_gt (pe_op op_mul (pe_callB RD.c_len (by rfl) T.n_len (by decide +kernel) (pa_cons (pe_fld (pv 0) (by rfl)) pa_nil)) (pe_callB RD.c_len (by rfl) T.n_len (by decide +kernel) (pa_cons (pe_fld (pv 1) (by rfl)) pa_nil))) (pe_glob (v := V.int 16) (by rfl) T.g_MOST_WORTHS ⟨_, rfl⟩) (nomark _))
 (pss_one (ps_raise rfl (takes_of rfl rfl rfl rfl) (OQ.pmk_mk0 T.oex_TooMany T.i_TooMany T.tI_TooMany (ok_TooMany__init T) (hr.mono (by decide)) T.b_TooMany__init .nil pass0 (by rfl) T.g_TooMany)))
 pss_nil)
 (pss_cons (ps_set (i := 2) sc_beside.nd rfl (Or.inl rfl) (pe_callB RD.c_len (by rfl) T.n_len (by decide +kernel) (pa_cons (pe_fld (pv 1) (by rfl)) pa_nil)))
 (pss_one (ps_ret (pe_make T.M_Reckoning (ok_Reckoning__init T) (hr.mono (by decide)) (by rfl) T.g_Reckoning T.b_Reckoning__init .nil (passes_call (takes_of rfl rfl rfl rfl) (fun _ _ _ _ h => h)) (pa_cons (pe_call (ok_side_by_side T) (hr.mono (by decide)) (by rfl) T.g_side_by_side T.F_side_by_side.kp T.b_side_by_side .nil pass0 (pa_cons (pe_fld (pv 0) (by rfl)) (pa_cons (pe_fld (pv 1) (by rfl)) pa_nil))) (pa_cons (pe_call (ok_side_by_side T) (hr.mono (by decide)) (by rfl) T.g_side_by_side T.F_side_by_side.kp T.b_side_by_side .nil pass0 (pa_cons (pe_fld (pv 0) (by rfl)) (pa_cons (pe_fld (pv 1) (by rfl)) pa_nil))) (pa_cons (pe_op op_add (pe_op op_mul (pe_fld (pv 0) (by rfl)) (pv 2)) (pe_fld (pv 1) (by rfl))) (pa_cons (pe_op op_add (pe_op op_mul (pe_fld (pv 0) (by rfl)) (pv 2)) (pe_fld (pv 1) (by rfl))) pa_nil))))))))))), ?_⟩
    walk_at "tx"
    rcases h with ⟨x, n, J, M, z, o, y, m, J', M', z', o', rfl, rfl, rf, rg, k, kM⟩ | ⟨nr, kE⟩ | ⟨x, n, J, M, z, o, rfl, rf, nr, kE⟩
    · refine ⟨_, rfl, .inl ⟨x, n, J, M, z, o, rfl, rf, ?_⟩⟩
      walk_at "tx"
      refine ⟨_, rfl, .inl ⟨y, m, J', M', z', o', rfl, rg, ?_⟩⟩
      obtain ⟨_, _, _, _, _, _, _, _, _, _, _, _, eR, n2, n16, zn, on, wj, wp⟩ := id rf
      obtain ⟨_, _, _, _, _, _, _, _, _, _, _, _, eR', m2, m16, zm, om, wj', wp'⟩ := id rg
      walk_at "tx"
      refine rfJ T rf (fun jt tj => ?_)
      walk_at "tx"
      refine tj.x.len ?_
      walk_at "tx"
      refine rfJ T rg (fun jt' tj' => ?_)
      walk_at "tx"
      refine tj'.x.len ?_
      walk_at "tx"
      refine RD.iteD (fun c => ?_) (fun c => ?_)
      · walk_at "tx"
        exact d_mkO0 T.oex_TooMany T.v_TooMany fun d hd => kM (by rw [← Int.natCast_mul] at c; omega) d hd
      have nm : n * m ≤ 16 := by rw [← Int.natCast_mul] at c; omega
      walk_at "tx"
      refine rfJ T rg (fun jt' tj' => ?_)
      walk_at "tx"
      refine tj'.x.len ?_
      walk_at "tx"
      refine rfJ T rf (fun a1 t1 => ?_)
      walk_at "tx"
      refine rfJ T rg (fun b1 u1 => ?_)
      walk_at "tx"
      refine ⟨a1, b1, n, m, J, J', rfl, t1.x, u1.x, by omega, by omega, nm, fun p1 H1 s1 q1 => ?_⟩
      replace rf := rf.same s1
      replace rg := rg.same s1
      walk_at "tx"
      refine rfP T rf (fun a2 t2 => ?_)
      walk_at "tx"
      refine rfP T rg (fun b2 u2 => ?_)
      walk_at "tx"
      refine ⟨a2, b2, n, m, M, M', rfl, t2.x, u2.x, by omega, by omega, nm, fun p2 H2 s2 q2 => ?_⟩
      replace rf := rf.same s2
      replace rg := rg.same s2
      replace q1 := q1.same s2
      walk_at "tx"
      refine rfN T rf ?_
      walk_at "tx"
      refine rfN T rg ?_
      walk_at "tx"
      refine rfO T rf ?_
      walk_at "tx"
      refine rfO T rg ?_
      walk_at "tx"
      intro t dt nt ndt ne
      have s3 := same_made (C := T.C_Reckoning) nt ndt ne
      have gd := (Gd.of_rest zn on wj wp eR).beside (Gd.of_rest zm om wj' wp' eR')
      have gr := gd.rest
      have nm2 : 2 * 2 ≤ n * m := Nat.mul_le_mul n2 m2
      rw [nat_mad, nat_mad]
      refine spReck_good (n := n * m) (z := z * m + z') (o := o * m + o') (J := bes m J J') (M := bes m M M') upd_same (q1.x.same s3) (q2.x.same s3) (by omega) nm gd.zn gd.on gd.jn gd.mn (fun _ H4 kx f => ⟨rfl, ?_⟩) (fun f e => by rw [gr] at e; cases e)
      have s14 : Same H2 H4 := fun b u e => kx _ _ (ne_of_none e nt) (s3 _ _ e)
      exact k nm t H4 ((s1.trans s2).trans s14) f
    · exact ⟨_, rfl, .inr ⟨nr, kE⟩⟩
    · refine ⟨_, rfl, .inl ⟨x, n, J, M, z, o, rfl, rf, ?_⟩⟩
      walk_at "tx"
      exact ⟨_, rfl, .inr ⟨nr, kE⟩⟩
end

/-! ### small ones, kept ones, what is asked -/
open OQ (TabX RowX SeqAt)
open RK (Gd Mo bes ren)
def spSmall : Sp := fun vs H Q _ => ∃ (h c : Addr), vs = [.ref h] ∧ HandAt H h c ∧ ∀ (t : Addr) (n : Nat) (J M : Nat → Nat → Nat) (z o : Nat) (H' : Hp), HandAt H' h c → Kx h H H' → ToldL H' t n J M z o → 2 ≤ n → n ≤ 8 → Gd n J M z o → Q (.ref t) H'
def spKept (K : PySem.W.Frag) (C : Addr) : Sp := fun vs H Q _ => ∃ (t n : Nat) (J M : Nat → Nat → Nat) (z o : Nat), vs = [.ref t] ∧ ToldL H t n J M z o ∧ 2 ≤ n ∧ n ≤ 16 ∧ Gd n J M z o ∧ ∀ x H', Same H H' → RekF K C H' x n J M z o → Q (.ref x) H'
/-- what is told of the asking -/
def spAsk33 (K : PySem.W.Frag) (C : Addr) : Sp := fun vs H Q _ => ∃ (k : Int) (v u : V), vs = [.int k, v, u] ∧
  ((k = 1 ∧ ∃ (x n : Nat) (J M : Nat → Nat → Nat) (z o y m : Nat) (J' M' : Nat → Nat → Nat) (z' o' : Nat), v = .ref x ∧ u = .ref y ∧ RekF K C H x n J M z o ∧ RekF K C H y m J' M' z' o' ∧
    ∀ p H', Same H H' → ((n * m ≤ 16 ∧ ∃ t, H' p = some (.tup [.str "told", .ref t]) ∧ RekF K C H' t (n * m) (bes m J J') (bes m M M') (z * m + z') (o * m + o')) ∨ (16 < n * m ∧ H' p = some (.tup [.str "many", .int 0]))) → Q (.ref p) H') ∨
   ∃ b, ((NoR K C H v ∧ b = v) ∨ (k ≠ 0 ∧ (∃ (x n : Nat) (J M : Nat → Nat → Nat) (z o : Nat), v = .ref x ∧ RekF K C H x n J M z o) ∧ NoR K C H u ∧ b = u)) ∧ ∀ p H', Same H H' → H' p = some (.tup [.str "bad", b]) → Q (.ref p) H')
theorem NoR.same {K : PySem.W.Frag} {C : Addr} {H H' : Hp} {v : V} (h : NoR K C H v) (s : Same H H') : NoR K C H' v := by
  obtain ⟨t, h1, h2⟩ := h
  exact ⟨t, tyX_same h1 s, h2⟩
section
variable {P : Program} {w : World} {K : PySem.W.Frag} {mg : Str → Option Value} {base : Heap}
theorem ok_law_small (T : Top K mg) : FnOk P w K mg base CX0 4 T.f_law_small T.fd_law_small ["hand"] spSmall := by
  refine T.F_law_small.ok sc_law_small (fun vs H Q E h => ?_) (fun cdv A outer s H vs Q E hr h => ?_)
  · obtain ⟨h, c, rfl, _⟩ := h; rfl
  · obtain ⟨h, c, rfl, hT, k⟩ := h
    refine ⟨_, (pss_cons (ps_set (i := 1) sc_law_small.nd rfl (Or.inl rfl) (pe_call (ok_law_draw T) (hr.mono (by decide)) (by rfl) T.g_law_draw T.F_law_draw.kp T.b_law_draw .nil pass0 (pa_cons (pv 0) (pa_cons pe_int pa_nil))))
 (pss_cons (ps_asg (pe_call (ok_law_monoid T) (hr.mono (by decide)) (by rfl) T.g_law_monoid T.F_law_monoid.kp T.b_law_monoid .nil pass0 (pa_cons (pv 0) pa_nil)) (pg_tup (by rfl) (pgs_cons (pg_name (i := 2) sc_law_small.nd rfl (Or.inl rfl)) (pgs_cons (pg_name (i := 3) sc_law_small.nd rfl (Or.inl rfl)) pgs_nil))))
 (pss_cons (ps_if (pt_cmpR op_eq (pv 1) pe_int (nomark _))
 (pss_one (ps_ret (pe_call (ok_law_chain T) (hr.mono (by decide)) (by rfl) T.g_law_chain T.F_law_chain.kp T.b_law_chain .nil pass0 (pa_cons (pe_lst (pa_cons (pe_lst (pa_cons pe_int (pa_cons pe_int pa_nil))) (pa_cons (pe_lst (pa_cons pe_int (pa_cons pe_int pa_nil))) pa_nil))) pa_nil))))
 pss_nil)
 (pss_cons (ps_if (pt_cmpR op_eq (pv 1) pe_int (nomark _))
 (pss_one (ps_ret (pe_call (ok_law_chain T) (hr.mono (by decide)) (by rfl) T.g_law_chain T.F_law_chain.kp T.b_law_chain .nil pass0 (pa_cons (pe_call (ok_law_products T) (hr.mono (by decide)) (by rfl) T.g_law_products T.F_law_products.kp T.b_law_products .nil pass0 (pa_cons (pv 0) pa_nil)) pa_nil))))
 pss_nil)
 (pss_cons (ps_if (pt_cmpR op_eq (pv 1) pe_int (nomark _))
 (pss_cons (ps_set (i := 4) sc_law_small.nd rfl (Or.inl rfl) (pe_call (ok_law_chain T) (hr.mono (by decide)) (by rfl) T.g_law_chain T.F_law_chain.kp T.b_law_chain .nil pass0 (pa_cons (pe_call (ok_law_products T) (hr.mono (by decide)) (by rfl) T.g_law_products T.F_law_products.kp T.b_law_products .nil pass0 (pa_cons (pv 0) pa_nil)) pa_nil)))
 (pss_one (ps_ret (pe_call (ok_law_renamed T) (hr.mono (by decide)) (by rfl) T.g_law_renamed T.F_law_renamed.kp T.b_law_renamed .nil pass0 (pa_cons (pv 4) (pa_cons (pe_call (ok_law_order T) (hr.mono (by decide)) (by rfl) T.g_law_order T.F_law_order.kp T.b_law_order .nil pass0 (pa_cons (pv 0) (pa_cons (pe_callB RD.c_len (by rfl) T.n_len (by decide +kernel) (pa_cons (pe_ix ix_list (pv 4) pe_int (fun _ _ => rfl)) pa_nil)) pa_nil))) pa_nil))))))
 pss_nil)
 (pss_one (ps_ret (pe_call (ok_law_lots T) (hr.mono (by decide)) (by rfl) T.g_law_lots T.F_law_lots.kp T.b_law_lots .nil pass0 (pa_cons (pv 2) (pa_cons (pv 3) pa_nil)))))))))), ?_⟩
    walk_at "tx"
    refine ⟨h, c, 4, rfl, hT, by decide, log2_lt (by decide), fun kd H1 k0 k9 hT1 b1 => ?_⟩
    have k1 : Kx h H H1 := b1.kx
    clear b1 hT
    walk_at "tx"
    refine ⟨h, c, rfl, hT1, fun t n P o H2 hT2 k2 mt n2 n3 mo => ?_⟩
    obtain ⟨b, et, tb⟩ := id mt
    replace k2 := k1.trans k2
    refine ⟨t, [.ref b, .int o], rfl, SqT.of et, rfl, .ref b, [.int o], rfl, .int o, [], rfl, rfl, ?_⟩
    walk_at "tx"
    refine RD.iteD (fun c0 => ?_) (fun c0 => ?_)
    · walk_at "tx"
      refine ⟨by show 2 ≤ sizeLine; decide, fun q1 hq1 => ?_⟩
      walk_at "tx"
      refine ⟨by show 2 ≤ sizeLine; decide, fun q2 hq2 => ?_⟩
      walk_at "tx"
      refine ⟨by show 2 ≤ sizeLine; decide, fun p hp => ?_⟩
      obtain ⟨tp, sp⟩ := tab2 (f := min) hq1 hq2 hp rfl rfl
      refine ⟨p, 2, min, rfl, tp, by omega, by omega, fun t H2 s2 tl => ?_⟩
      exact k t 2 _ _ _ _ H2 (hT2.same (sp.trans s2)) (k2.trans (Same.kx (sp.trans s2))) tl (by omega) (by omega) (RK.gd_min (by omega))
    walk_at "tx"
    refine RD.iteD (fun c1 => ?_) (fun c1 => ?_)
    · walk_at "tx"
      refine ⟨h, c, rfl, hT2, fun p n M H3 hT3 k3 tp n2 n5 gd => ?_⟩
      walk_at "tx"
      refine ⟨p, n, M, rfl, tp, by omega, by omega, fun t H4 s4 tl => ?_⟩
      exact k t n _ _ _ _ H4 (hT3.same s4) ((k2.trans k3).trans (Same.kx s4)) tl n2 (by omega) gd
    walk_at "tx"
    refine RD.iteD (fun c2 => ?_) (fun c2 => ?_)
    · walk_at "tx"
      refine ⟨h, c, rfl, hT2, fun p n M H3 hT3 k3 tp n2 n5 gd => ?_⟩
      walk_at "tx"
      refine ⟨p, n, M, rfl, tp, by omega, by omega, fun t H4 s4 tl => ?_⟩
      replace hT3 := hT3.same s4
      replace k3 := (k2.trans k3).trans (Same.kx s4)
      obtain ⟨a, b, et, ta, tb⟩ := id tl
      walk_at "tx"
      refine ta.x.len ?_
      walk_at "tx"
      refine ⟨h, c, n, rfl, hT3, by omega, fun q os H5 hT5 k5 eq pm => ?_⟩
      walk_at "tx"
      refine ⟨t, q, os, n, max, M, 0, n - 1, rfl, tl.kx k5 hT3 n2, eq, pm, by omega, gd.zn, gd.on, gd.jn, gd.mn, fun t' H6 s6 tl' => ?_⟩
      exact k t' n _ _ _ _ H6 (hT5.same s6) ((k3.trans k5).trans (Same.kx s6)) tl' n2 (by omega) (gd.renamed (perm_bij pm))
    walk_at "tx"
    refine ⟨b, n, o, P, rfl, tb, n3, mo, fun t1 H3 s3 tl => ?_⟩
    have n8 : 2 ^ n ≤ 8 := Nat.pow_le_pow_right (n := 2) (by omega) n3
    have n4 : 4 ≤ 2 ^ n := Nat.pow_le_pow_right (n := 2) (i := 2) (by omega) n2
    exact k t1 (2 ^ n) _ _ _ _ H3 (hT2.same s3) (k2.trans (Same.kx s3)) tl (by omega) n8 mo.lots
theorem ok_law_kept (T : Top K mg) : FnOk P w K mg base CX0 14 T.f_law_kept T.fd_law_kept ["told"] (spKept K T.C_Reckoning) := by
  refine T.F_law_kept.ok sc_law_kept (fun vs H Q E h => ?_) (fun cdv A outer s H vs Q E hr h => ?_)
  · obtain ⟨t, n, J, M, z, o, rfl, _⟩ := h; rfl
  · obtain ⟨t, n, J, M, z, o, rfl, tl, n2, n16, gd, k⟩ := h
    obtain ⟨a, b, et, ta, tb⟩ := id tl
    refine ⟨_, (pss_one (ps_ret (pe_make T.M_Reckoning (ok_Reckoning__init T) (hr.mono (by decide)) (by rfl) T.g_Reckoning T.b_Reckoning__init .nil OQ.passN (pa_cons (pe_ix ix_list (pv 0) pe_int (fun _ _ => rfl)) (pa_cons (pe_ix ix_list (pv 0) pe_int (fun _ _ => rfl)) (pa_cons (pe_ix ix_list (pv 0) pe_int (fun _ _ => rfl)) (pa_cons (pe_ix ix_list (pv 0) pe_int (fun _ _ => rfl)) pa_nil))))))), ?_⟩
    walk_at "tx"
    intro y dy ny ndy ne
    have s3 := same_made (C := T.C_Reckoning) ny ndy ne
    have gr := gd.rest
    refine spReck_good (n := n) (z := z) (o := o) (J := J) (M := M) upd_same (ta.x.same s3) (tb.x.same s3) n2 n16 gd.zn gd.on gd.jn gd.mn (fun _ H4 kx f => ⟨rfl, ?_⟩) (fun f e => by rw [gr] at e; cases e)
    exact k y H4 (fun b u e => kx _ _ (ne_of_none e ny) (s3 _ _ e)) f
theorem ok_law_asked (T : Top K mg) : FnOk P w K mg base CX0 16 T.f_law_asked T.fd_law_asked ["kind", "one", "other"] (spAsk33 K T.C_Reckoning) := by
  refine T.F_law_asked.ok sc_law_asked (fun vs H Q E h => ?_) (fun cdv A outer s H vs Q E hr h => ?_)
  · obtain ⟨k, v, u, rfl, _⟩ := h; rfl
  · obtain ⟨k, v, u, rfl, h⟩ := h
    refine ⟨_, (pss_cons (ps_set (i := 3) sc_law_asked.nd rfl (Or.inl rfl) (pe_tup (pa_cons pe_str (pa_cons pe_int pa_nil))))
 (pss_cons (OM.ps_try_cls (W := fun _ _ _ _ => False) rfl rfl sc_law_asked.nd takes0 (fun W pn xe tk _ => (pss_one (ps_if (pt_cmpR op_eq (pv 0) pe_int (nomark _))
 (pss_one (ps_set (i := 3) sc_law_asked.nd rfl (Or.inl rfl) (pe_tup (pa_cons pe_str (pa_cons (pe_callS (ok_turned T) (hr.mono (by decide)) (by rfl) T.g_turned T.F_turned.kp T.b_turned (fun σ => passAt tk σ) (pa_cons (pv 1) pa_nil)) pa_nil)))))
 (pss_one (ps_set (i := 3) sc_law_asked.nd rfl (Or.inl rfl) (pe_tup (pa_cons pe_str (pa_cons (pe_callS (ok_beside T) (hr.mono (by decide)) (by rfl) T.g_beside T.F_beside.kp T.b_beside (fun σ => passAt tk σ) (pa_cons (pv 1) (pa_cons (pv 2) pa_nil))) pa_nil)))))))) (OM.Cls.cons ⟨.ref T.C_BadReckoning, some 4, _⟩ 4 rfl rfl rfl ⟨rfl, by decide, Or.inl T.g_BadReckoning⟩ (fun a oe cls d pn hz hf => (pss_one (ps_set (i := 3) sc_law_asked.nd rfl (Or.inl rfl) (pe_tup (pa_cons pe_str (pa_cons (pe_xf T.xf_BadReckoning T.v_BadReckoning hz hf (pv 4)) pa_nil)))))) (OM.Cls.bare ⟨.ref T.C_TooMany, none, _⟩ rfl ⟨rfl, by decide, Or.inl T.g_TooMany⟩ (fun a oe cls d pn hz hf => (pss_one (ps_set (i := 3) sc_law_asked.nd rfl (Or.inl rfl) (pe_tup (pa_cons pe_str (pa_cons pe_int pa_nil)))))) OM.Cls.nil)))
 (pss_one (ps_ret (pv 3))))), ?_⟩
    walk_at "tx"
    refine ⟨by show 2 ≤ sizeLine; decide, fun p0 hp0 => ?_⟩
    have s0 : Same H (upd H p0 (.tup [.str "none", .int 0])) := same_upd hp0
    generalize upd H p0 (.tup [.str "none", .int 0]) = H0 at *
    walk_at "tx"
    rcases h with ⟨rfl, x, n, J, M, z, o, y, m, J', M', z', o', rfl, rfl, rf, rg, q⟩ | ⟨b, hb, q⟩
    · replace rf := rf.same s0
      replace rg := rg.same s0
      refine RD.iteD (fun c => absurd c (by decide)) (fun c => ?_)
      walk_at "tx"
      refine ⟨_, rfl, _, rfl, _, _, rfl, .inl ⟨x, n, J, M, z, o, y, m, J', M', z', o', rfl, rfl, rf, rg, fun nm t H1 s1 rt => ?_, fun nm d hd => ?_⟩⟩
      · walk_at "tx"
        refine ⟨by show 2 ≤ sizeLine; decide, fun p hp => ?_⟩
        walk_at "tx"
        exact q p _ ((s0.trans s1).trans (same_upd hp)) (.inl ⟨nm, t, upd_same, rt.same (same_upd hp)⟩)
      · refine .inr ⟨T.x_TB, .inl ⟨T.exm_TooMany, fun e he => ?_⟩⟩
        have sd : Same H0 (upd H0 d (ErrD .non)) := same_upd hd
        walk_at "tx"
        refine ⟨by show 2 ≤ sizeLine; decide, fun p hp => ?_⟩
        walk_at "tx"
        exact q p _ ((s0.trans sd).trans (same_upd hp)) (.inr ⟨nm, upd_same⟩)
    · refine RD.iteD (fun c => ?_) (fun c => ?_)
      · rcases hb with ⟨nr, rfl⟩ | ⟨k0, _⟩
        · walk_at "tx"
          refine ⟨_, rfl, .inr ⟨nr.same s0, fun d hd => ?_⟩⟩
          have sd := same_upd (o := ErrD b) hd
          have ed : upd H0 d (ErrD b) d = some (ErrD b) := upd_same
          generalize upd H0 d (ErrD b) = H3 at *
          refine .inl ⟨T.exm_BadReckoning, fun e he => ?_⟩
          walk_at "tx"
          refine ⟨_, rfl, rfl, rfl, d, _, _, rfl, ed, errD_v _, ?_⟩
          walk_at "tx"
          refine ⟨by show 2 ≤ sizeLine; decide, fun p hp => ?_⟩
          walk_at "tx"
          exact q p _ ((s0.trans sd).trans (same_upd hp)) upd_same
        · exact absurd c k0
      · walk_at "tx"
        rcases hb with ⟨nr, rfl⟩ | ⟨_, ⟨x, n, J, M, z, o, rfl, rf⟩, nr, rfl⟩
        · refine ⟨_, rfl, _, rfl, _, _, rfl, .inr (.inl ⟨nr.same s0, fun d hd => ?_⟩)⟩
          have sd := same_upd (o := ErrD b) hd
          have ed : upd H0 d (ErrD b) d = some (ErrD b) := upd_same
          generalize upd H0 d (ErrD b) = H3 at *
          refine .inl ⟨T.exm_BadReckoning, fun e he => ?_⟩
          walk_at "tx"
          refine ⟨_, rfl, rfl, rfl, d, _, _, rfl, ed, errD_v _, ?_⟩
          walk_at "tx"
          refine ⟨by show 2 ≤ sizeLine; decide, fun p hp => ?_⟩
          walk_at "tx"
          exact q p _ ((s0.trans sd).trans (same_upd hp)) upd_same
        · refine ⟨_, rfl, _, rfl, _, _, rfl, .inr (.inr ⟨x, n, J, M, z, o, rfl, rf.same s0, nr.same s0, fun d hd => ?_⟩)⟩
          have sd := same_upd (o := ErrD b) hd
          have ed : upd H0 d (ErrD b) d = some (ErrD b) := upd_same
          generalize upd H0 d (ErrD b) = H3 at *
          refine .inl ⟨T.exm_BadReckoning, fun e he => ?_⟩
          walk_at "tx"
          refine ⟨_, rfl, rfl, rfl, d, _, _, rfl, ed, errD_v _, ?_⟩
          walk_at "tx"
          refine ⟨by show 2 ≤ sizeLine; decide, fun p hp => ?_⟩
          walk_at "tx"
          exact q p _ ((s0.trans sd).trans (same_upd hp)) upd_same
end

/-! ### the class Ratio -/
def ratF (q : Rat) : List (Str × V) := [(("top" : Str), V.int q.num), (("bottom" : Str), V.int (q.den : Int))]
def RatAt (C : Addr) (H : Hp) (a : Addr) (q : Rat) : Prop := ∃ dx, H a = some (.ins C dx (ratF q))
def spRat (K : PySem.W.Frag) (C BN : Addr) : Sp := fun vs H Q E => ∃ (x dx : Addr) (t b : V), vs = [.ref x, t, b] ∧ H x = some (.ins C dx []) ∧
  ((IsI K H t false ∧ ∀ d, H d = none → E (.ref BN) (some d) (upd H d (ErrD t))) ∨
   (∃ i : Int, t = .int i ∧ (IsI K H b false ∨ b = .int 0) ∧ ∀ d, H d = none → E (.ref BN) (some d) (upd H d (ErrD b))) ∨
   ∃ i j : Int, t = .int i ∧ b = .int j ∧ j ≠ 0 ∧ j.natAbs.log2 < 9000 ∧ Q .non (upd H x (.ins C dx (ratF (Rat.divInt i j)))))
theorem RatAt.same {C : Addr} {H H' : Hp} {a : Addr} {q : Rat} (h : RatAt C H a q) (s : Same H H') : RatAt C H' a q := by
  obtain ⟨dx, e⟩ := h
  exact ⟨dx, s _ _ e⟩
theorem ratF_put (u v : V) : putF "bottom" v (putF "top" u []) = [(("top" : Str), u), (("bottom" : Str), v)] := by
  show (if ("top" : Str) = "bottom" then [(("top" : Str), v)] else (("top" : Str), u) :: putF "bottom" v []) = _
  rw [if_neg (by decide +kernel)]; rfl
theorem ratF_top (q : Rat) : (ratF q).lookup ("top" : Str) = some (.int q.num) := by unfold ratF; simp [List.lookup]
theorem tb_ne : (("bottom" : Str) == ("top" : Str)) = false := by decide +kernel
theorem ratF_bottom (q : Rat) : (ratF q).lookup ("bottom" : Str) = some (.int (q.den : Int)) := by unfold ratF; simp [List.lookup, tb_ne]
theorem log2_mono {a b : Nat} (h : a ≤ b) : a.log2 ≤ b.log2 := by
  by_cases ha : a = 0
  · subst ha; simp
  · exact (Nat.le_log2 (by omega)).mpr (Nat.le_trans (Nat.log2_self_le ha) h)
section
variable {P : Program} {w : World} {K : PySem.W.Frag} {mg : Str → Option Value} {base : Heap}
theorem ok_Ratio__init (T : Top K mg) : FnOk P w K mg base (L2.CX P w) 3 T.f_Ratio__init T.fd_Ratio__init ["self", "top", "bottom"] (spRat K T.C_Ratio T.C_BadNumber) := by
  refine T.F_Ratio__init.ok sc_Ratio__init (fun vs H Q E h => ?_) (fun cdv A outer s H vs Q E hr h => ?_)
  · obtain ⟨x, dx, t, b, rfl, _⟩ := h; rfl
  · obtain ⟨x, dx, t, b, rfl, hx, h⟩ := h
    refine ⟨_, (pss_cons (ps_if (pt_not (pt_val (pe_call (ok_is_integer T) (hr.mono (by decide)) (by rfl) T.g_is_integer T.F_is_integer.kp T.b_is_integer .nil pass0 (pa_cons (pv 1) pa_nil))))
 (pss_one (ps_raise rfl (takes_of rfl rfl rfl rfl) (pmk_oex T.oex_BadNumber T.i_BadNumber T.tI (ok_WayError__init T) (hr.mono (by decide)) T.b_WayError__init .nil pass0 (by rfl) T.g_BadNumber (pa_cons (pv 1) pa_nil))))
 pss_nil)
 (pss_cons (ps_if (PW.pt (pw_or (pt_not (pt_val (pe_call (ok_is_integer T) (hr.mono (by decide)) (by rfl) T.g_is_integer T.F_is_integer.kp T.b_is_integer .nil pass0 (pa_cons (pv 2) pa_nil)))) (pw_or1 (pt_cmpR op_eq (pv 2) pe_int (nomark _)))))
 (pss_one (ps_raise rfl (takes_of rfl rfl rfl rfl) (pmk_oex T.oex_BadNumber T.i_BadNumber T.tI (ok_WayError__init T) (hr.mono (by decide)) T.b_WayError__init .nil pass0 (by rfl) T.g_BadNumber (pa_cons (pv 2) pa_nil))))
 pss_nil)
 (pss_cons (ps_set (i := 3) sc_Ratio__init.nd rfl (Or.inl rfl) (pe_callBfun cr_gcd (by rfl) T.g_gcd (pa_cons (pv 1) (pa_cons (pv 2) pa_nil))))
 (C8.pss_cut (ps_if (pt_cmpR op_lt (pv 2) pe_int (nomark _))
 (pss_one (ps_set (i := 3) sc_Ratio__init.nd rfl (Or.inl rfl) (pe_un un_neg (pv 3))))
 pss_nil)
 (pss_cons (ps_fld (pv 0) (pe_op OQ.op_fdivX (pv 1) (pv 3)) rfl)
 (pss_one (ps_fld (pv 0) (pe_op OQ.op_fdivX (pv 2) (pv 3)) rfl))))))), ?_⟩
    walk_at "rd"
    rcases h with ⟨ni, k⟩ | ⟨i, rfl, nb, k⟩ | ⟨i, j, rfl, rfl, nz, hl, k⟩
    · refine ⟨t, false, rfl, ni, ?_⟩
      walk_at "rd"
      exact d_mkO T.oex_BadNumber T.v_BadNumber k
    · refine ⟨.int i, true, rfl, isI_int i, ?_⟩
      walk_at "rd"
      rcases nb with nb | rfl
      · refine ⟨b, false, rfl, nb, ?_⟩
        walk_at "rd"
        exact d_mkO T.oex_BadNumber T.v_BadNumber k
      · refine ⟨.int 0, true, rfl, isI_int 0, ?_⟩
        walk_at "rd"
        exact d_mkO T.oex_BadNumber T.v_BadNumber k
    · refine ⟨.int i, true, rfl, isI_int i, ?_⟩
      walk_at "rd"
      refine ⟨.int j, true, rfl, isI_int j, ?_⟩
      walk_at "rd"
      refine RD.d_iteDF nz ?_
      walk_at "rd"
      have hs := RM.shr_ne (i := i) nz
      have hb : (RM.shr i j).natAbs.log2 < 9000 := Nat.lt_of_le_of_lt (log2_mono (RM.shr_le nz)) hl
      refine RD.d_cut (fun σ' H' => σ' = [some (.ref x), some (.int i), some (.int j), some (.int (RM.shr i j))] ∧ H' = H) ?_ ?_
      · walk_at "rd"
        refine RD.iteD (fun c => ?_) (fun c => ?_)
        · walk_at "rd"
          exact ⟨by unfold RM.shr; rw [if_pos c]; rfl, rfl⟩
        · walk_at "rd"
          exact ⟨by unfold RM.shr; rw [if_neg c]; rfl, rfl⟩
      · rintro σ' H' ⟨rfl, rfl⟩
        walk_at "rd"
        refine ⟨x, T.C_Ratio, dx, [], rfl, hx, T.cl_Ratio, T.na_Ratio_top, by show 0 < 1000; decide, ?_⟩
        walk_at "rd"
        refine ⟨x, T.C_Ratio, dx, _, rfl, upd_same, T.cl_Ratio, T.na_Ratio_bottom, by show 1 < 1000; decide, ?_⟩
        rw [upd_upd, RM.num_eq nz, RM.den_eq nz, ratF_put]
        exact k
end
/-! ### Lengths(), Numbers() -/
def LenAt (C : Addr) (H : Hp) (x : Addr) : Prop := ∃ dx, H x = some (.ins C dx [("none", .non), ("one", .int 0)])
theorem LenAt.same {C : Addr} {H H' : Hp} {x : Addr} (h : LenAt C H x) (s : Same H H') : LenAt C H' x := by
  obtain ⟨dx, e⟩ := h
  exact ⟨dx, s _ _ e⟩
def spLenI (C : Addr) : Sp := fun vs H Q _ => ∃ (x dx : Addr), vs = [.ref x] ∧ H x = some (.ins C dx []) ∧ ∀ H', Kx x H H' → LenAt C H' x → Q .non H'
def spIsOf (K : PySem.W.Frag) (C : Addr) : Sp := fun vs H Q _ => ∃ (s x : V) (t : Value) (b : Bool), vs = [s, x] ∧ TyX K H x t ∧ PySem.W.kitOne K t (.ref C) = some b ∧ Q (.bl b) H
section
variable {P : Program} {w : World} {K : PySem.W.Frag} {mg : Str → Option Value} {base : Heap}
theorem ok_Lengths__eq (T : Top K mg) : FnOk P w K mg base CX0 2 T.f_Lengths__eq T.fd_Lengths__eq ["self", "other"] (spIsOf K T.C_Lengths) := by
  refine T.F_Lengths__eq.ok sc_Lengths__eq (fun vs H Q E h => ?_) (fun cdv A outer s H vs Q E hr h => ?_)
  · obtain ⟨z, x, t, b, rfl, _⟩ := h; rfl
  · obtain ⟨z, x, t, b, rfl, ty, e, k⟩ := h
    refine ⟨_, (pss_one (ps_ret (pe_callB call_isi (by rfl) T.n_isinstance (by decide +kernel) (pa_cons (pv 1) (pa_cons (pe_glob (v := V.ref T.C_Lengths) (by rfl) T.g_Lengths rfl) pa_nil))))), ?_⟩
    walk_at "rd"
    exact RD.d_isi (.own _) ty e k
theorem ok_Lengths__init (T : Top K mg) : FnOk P w K mg base CX0 2 T.f_Lengths__init T.fd_Lengths__init ["self"] (spLenI T.C_Lengths) := by
  refine T.F_Lengths__init.ok sc_Lengths__init (fun vs H Q E h => ?_) (fun cdv A outer s H vs Q E hr h => ?_)
  · obtain ⟨x, dx, rfl, _⟩ := h; rfl
  · obtain ⟨x, dx, rfl, ex, k⟩ := h
    refine ⟨_, (pss_cons (ps_fld (pv 0) pe_non rfl)
 (pss_one (ps_fld (pv 0) pe_int rfl))), ?_⟩
    walk_at "rd"
    refine ⟨x, T.C_Lengths, dx, _, rfl, ex, T.cl_Lengths, T.na_Lengths_none, by show 0 < 1000; decide, ?_⟩
    walk_at "rd"
    refine ⟨x, T.C_Lengths, dx, _, rfl, upd_same, T.cl_Lengths, T.na_Lengths_one, by show 1 < 1000; decide, ?_⟩
    rw [upd_upd]
    refine k _ kx_upd ⟨dx, ?_⟩
    rw [upd_same, putF_none, putF_ne (by decide +kernel), putF_none]
end
theorem rat_one (i : Int) : Rat.divInt i 1 = (i : Rat) := by
  have := Rat.num_divInt_den (i : Rat)
  rw [Rat.num_intCast, Rat.den_intCast] at this
  exact this
/-- Numbers() at x -/
def NumsAt (C CR : Addr) (H : Hp) (x : Addr) : Prop := ∃ dx a b, H x = some (.ins C dx [("none", .ref a), ("one", .ref b)]) ∧ RatAt CR H a 0 ∧ RatAt CR H b 1
theorem NumsAt.same {C CR : Addr} {H H' : Hp} {x : Addr} (h : NumsAt C CR H x) (s : Same H H') : NumsAt C CR H' x := by
  obtain ⟨dx, a, b, e, r1, r2⟩ := h
  exact ⟨dx, a, b, s _ _ e, r1.same s, r2.same s⟩
def spNumsI (C CR : Addr) : Sp := fun vs H Q _ => ∃ (x dx : Addr), vs = [.ref x] ∧ H x = some (.ins C dx []) ∧ ∀ H', Kx x H H' → NumsAt C CR H' x → Q .non H'
section
variable {P : Program} {w : World} {K : PySem.W.Frag} {mg : Str → Option Value} {base : Heap}
section
variable {E : XK}
theorem mk_rat (T : Top K mg) {i j : Int} {R : Addr → Hp → Prop} (nz : j ≠ 0) (hl : j.natAbs.log2 < 9000) (k : ∀ x H', Same H H' → H x = none → RatAt T.C_Ratio H' x (Rat.divInt i j) → R x H') :
    ∀ x dx, H x = none → H dx = none → dx ≠ x → spRat K T.C_Ratio T.C_BadNumber (.ref x :: ([V.int i, V.int j] ++ [])) (upd (upd H dx (.own x)) x (.ins T.C_Ratio dx [])) (fun v H2 => v = .non ∧ R x H2) E := by
  intro x dx nx ndx ne
  refine ⟨x, dx, .int i, .int j, rfl, upd_same, .inr (.inr ⟨i, j, rfl, rfl, nz, hl, rfl, ?_⟩)⟩
  refine k x _ (fun b o e => ?_) nx ⟨dx, upd_same⟩
  rw [upd_ne (ne_of_none e nx), upd_ne (ne_of_none e nx), upd_ne (ne_of_none e ndx)]; exact e
end
theorem ok_Numbers__eq (T : Top K mg) : FnOk P w K mg base CX0 2 T.f_Numbers__eq T.fd_Numbers__eq ["self", "other"] (spIsOf K T.C_Numbers) := by
  refine T.F_Numbers__eq.ok sc_Numbers__eq (fun vs H Q E h => ?_) (fun cdv A outer s H vs Q E hr h => ?_)
  · obtain ⟨z, x, t, b, rfl, _⟩ := h; rfl
  · obtain ⟨z, x, t, b, rfl, ty, e, k⟩ := h
    refine ⟨_, (pss_one (ps_ret (pe_callB call_isi (by rfl) T.n_isinstance (by decide +kernel) (pa_cons (pv 1) (pa_cons (pe_glob (v := V.ref T.C_Numbers) (by rfl) T.g_Numbers rfl) pa_nil))))), ?_⟩
    walk_at "rd"
    exact RD.d_isi (.own _) ty e k
theorem ok_Numbers__init (T : Top K mg) : FnOk P w K mg base CX0 6 T.f_Numbers__init T.fd_Numbers__init ["self"] (spNumsI T.C_Numbers T.C_Ratio) := by
  refine T.F_Numbers__init.ok sc_Numbers__init (fun vs H Q E h => ?_) (fun cdv A outer s H vs Q E hr h => ?_)
  · obtain ⟨x, dx, rfl, _⟩ := h; rfl
  · obtain ⟨x, dx, rfl, ex, k⟩ := h
    obtain ⟨ds1, hv_Ratio__init, hb_Ratio__init⟩ := T.b1_Ratio__init
    refine ⟨_, (pss_cons (ps_fld (pv 0) (pe_make T.M_Ratio (ok_Ratio__init T) (hr.mono (by decide)) (by rfl) T.g_Ratio hb_Ratio__init hv_Ratio__init OQ.passN (pa_cons pe_int pa_nil)) rfl)
 (pss_one (ps_fld (pv 0) (pe_make T.M_Ratio (ok_Ratio__init T) (hr.mono (by decide)) (by rfl) T.g_Ratio hb_Ratio__init hv_Ratio__init OQ.passN (pa_cons pe_int pa_nil)) rfl))), ?_⟩
    walk_at "rd"
    refine mk_rat T (i := 0) (j := 1) (by decide) (by decide +kernel) (fun a H1 s1 na ha => ?_)
    have nx : x ≠ a := ne_of_none ex na
    replace ex := s1 _ _ ex
    walk_at "rd"
    refine ⟨x, T.C_Numbers, dx, _, rfl, ex, T.cl_Numbers, T.na_Numbers_none, by show 0 < 1000; decide, ?_⟩
    rw [putF_none]
    have ha2 : RatAt T.C_Ratio (upd H1 x (.ins T.C_Numbers dx [("none", .ref a)])) a 0 := by
      obtain ⟨d, e⟩ := ha
      rw [rat_one] at e
      exact ⟨d, by rw [upd_ne (Ne.symm nx)]; exact e⟩
    have k1 : Kx x H (upd H1 x (.ins T.C_Numbers dx [("none", .ref a)])) := Kx.trans (Same.kx s1) kx_upd
    have ex2 : upd H1 x (.ins T.C_Numbers dx [("none", .ref a)]) x = some (.ins T.C_Numbers dx [("none", .ref a)]) := upd_same
    generalize upd H1 x (.ins T.C_Numbers dx [("none", .ref a)]) = H2 at *
    walk_at "rd"
    refine mk_rat T (i := 1) (j := 1) (by decide) (by decide +kernel) (fun b H3 s3 nb hb => ?_)
    have nx2 : x ≠ b := ne_of_none ex2 nb
    replace ex2 := s3 _ _ ex2
    replace ha2 := ha2.same s3
    walk_at "rd"
    refine ⟨x, T.C_Numbers, dx, _, rfl, ex2, T.cl_Numbers, T.na_Numbers_one, by show 1 < 1000; decide, ?_⟩
    refine k _ ((k1.trans (Same.kx s3)).trans kx_upd) ⟨dx, a, b, ?_, ?_, ?_⟩
    · rw [upd_same, putF_ne (by decide +kernel), putF_none]
    · obtain ⟨d, e⟩ := ha2
      exact ⟨d, by rw [upd_ne (Ne.symm nx)]; exact e⟩
    · obtain ⟨d, e⟩ := hb
      rw [rat_one] at e
      exact ⟨d, by rw [upd_ne (Ne.symm nx2)]; exact e⟩
end

/-! ### a reckoning while the hand moves -/
open OQ (TabX RowX SeqAt)
theorem sqT_kxh {K : PySem.W.Frag} {H H' : Hp} {h c a : Addr} {xs : List V} (s : SqT K H a xs) (x : HandAt H h c) (k : Kx h H H') : SqT K H' a xs := by
  obtain ⟨cs, p, q, m, n, e1, _⟩ := x
  rcases s with (s | ⟨o, s⟩) | s
  · exact .inl (.inl (k _ _ (fun z => by subst z; rw [e1] at s; cases s) s))
  · exact .inl (.inr ⟨o, k _ _ (fun z => by subst z; rw [e1] at s; cases s) s⟩)
  · exact .inr s
theorem TabXT.kxh {K : PySem.W.Frag} {H H' : Hp} {h c a : Addr} {n : Nat} {f : Nat → Nat → Nat} (t : TabXT K H a n f) (x : HandAt H h c) (k : Kx h H H') : TabXT K H' a n f := by
  obtain ⟨rs, l, e, q⟩ := t
  exact ⟨rs, l, sqT_kxh e x k, fun i r z => sqT_kxh (q i r z) x k⟩
theorem RekF.kxh {K : PySem.W.Frag} {C : Addr} {H H' : Hp} {h c x : Addr} {n : Nat} {J M : Nat → Nat → Nat} {z o : Nat} (r : RekF K C H x n J M z o) (y : HandAt H h c) (k : Kx h H H') : RekF K C H' x n J M z o := by
  obtain ⟨dx, jt, pt, mt, lt, rt, e, t1, t2, t3, t4, t5, rf, n2, n16, zn, on, wj, wp⟩ := r
  have ne : x ≠ h := fun q => by
    obtain ⟨cs, p, q', m, n, e1, _⟩ := y
    subst q; rw [e] at e1; cases e1
  exact ⟨dx, jt, pt, mt, lt, rt, k _ _ ne e, t1.kxh y k, t2.kxh y k, k.tabL y n2 t3, k.tabL y n2 t4, k.tabL y n2 t5, rf, n2, n16, zn, on, wj, wp⟩

/-! ### odd things; the law -/
open OQ (TabX RowX SeqAt)
open RK (Gd bes)
/-- an odd thing -/
inductive Odd (K : PySem.W.Frag) (CL CN CR : Addr) (H : Hp) : V → Prop
  | non : Odd K CL CN CR H .non
  | int : Odd K CL CN CR H (.int 0)
  | bl : Odd K CL CN CR H (.bl true)
  | str : Odd K CL CN CR H (.str "")
  | lst {p : Addr} {xs : List V} (e : H p = some (.lst xs)) (s : ∀ v ∈ xs, OQ.SameIt v) : Odd K CL CN CR H (.ref p)
  | tup {p : Addr} {xs : List V} (e : H p = some (.tup xs)) (s : ∀ v ∈ xs, OQ.SameIt v) : Odd K CL CN CR H (.ref p)
  | dct {p : Addr} (e : H p = some (.dK [])) : Odd K CL CN CR H (.ref p)
  | len {p : Addr} (e : LenAt CL H p) : Odd K CL CN CR H (.ref p)
  | nums {p : Addr} (e : NumsAt CN CR H p) : Odd K CL CN CR H (.ref p)
theorem Odd.same {K : PySem.W.Frag} {CL CN CR : Addr} {H H' : Hp} {v : V} (o : Odd K CL CN CR H v) (s : Same H H') : Odd K CL CN CR H' v := by
  cases o with
  | non => exact .non
  | int => exact .int
  | bl => exact .bl
  | str => exact .str
  | lst e q => exact .lst (s _ _ e) q
  | tup e q => exact .tup (s _ _ e) q
  | dct e => exact .dct (s _ _ e)
  | len e => exact .len (e.same s)
  | nums e => exact .nums (e.same s)
section
variable {P : Program} {w : World} {K : PySem.W.Frag} {mg : Str → Option Value} {base : Heap} {H : Hp} {v : V}
theorem lenTy (T : Top K mg) {p : Addr} (e : LenAt T.C_Lengths H p) : TyX K H (.ref p) (.ref T.C_Lengths) := by
  obtain ⟨dx, e⟩ := e
  exact .base (.ins e T.cl_Lengths T.ha_Lengths T.hnO T.htO T.hm_Lengths)
theorem numsTy (T : Top K mg) {p : Addr} (e : NumsAt T.C_Numbers T.C_Ratio H p) : TyX K H (.ref p) (.ref T.C_Numbers) := by
  obtain ⟨dx, a, b, e, _⟩ := e
  exact .base (.ins e T.cl_Numbers T.ha_Numbers T.hnO T.htO T.hm_Numbers)
theorem Odd.nor (T : Top K mg) (o : Odd K T.C_Lengths T.C_Numbers T.C_Ratio H v) : NoR K T.C_Reckoning H v := by
  have kt := T.kT_Reckoning
  cases o with
  | non => exact ⟨_, .base .non, kt "NoneType" (by simp)⟩
  | int => exact ⟨_, .base (.int 0), kt "int" (by simp)⟩
  | bl => exact ⟨_, .base (.bl true), kt "bool" (by simp)⟩
  | str => exact ⟨_, .base (.str _), kt "str" (by simp)⟩
  | lst e q => exact ⟨_, .base (.lst e), kt "list" (by simp)⟩
  | tup e q => exact ⟨_, .base (.tup e), kt "tuple" (by simp)⟩
  | dct e => exact ⟨_, .base (.dK e), kt "dict" (by simp)⟩
  | len e => exact ⟨_, lenTy T e, T.kP_Lengths_Reckoning⟩
  | nums e => exact ⟨_, numsTy T e, T.kP_Numbers_Reckoning⟩
theorem Odd.isb (T : Top K mg) (o : Odd K T.C_Lengths T.C_Numbers T.C_Ratio H v) : ∃ t b, TyX K H v t ∧ PySem.W.kitOne K t (.type "bool") = some b := by
  cases o with
  | non => exact ⟨_, _, .base .non, kit_ty (r := false) (by decide +kernel)⟩
  | int => exact ⟨_, _, .base (.int 0), kit_ty (r := false) (by decide +kernel)⟩
  | bl => exact ⟨_, _, .base (.bl true), kit_ty (r := true) (by decide +kernel)⟩
  | str => exact ⟨_, _, .base (.str _), kit_ty (r := false) (by decide +kernel)⟩
  | lst e q => exact ⟨_, _, .base (.lst e), kit_ty (r := false) (by decide +kernel)⟩
  | tup e q => exact ⟨_, _, .base (.tup e), kit_ty (r := false) (by decide +kernel)⟩
  | dct e => exact ⟨_, _, .base (.dK e), kit_ty (r := false) (by decide +kernel)⟩
  | len e => exact ⟨_, _, lenTy T e, T.kB_Lengths⟩
  | nums e => exact ⟨_, _, numsTy T e, T.kB_Numbers⟩
/-- the thing is the same as itself -/
theorem Odd.ne (T : Top K mg) (o : Odd K T.C_Lengths T.C_Numbers T.C_Ratio H v) {Q : VK} (k : Q (.bl false) H) :
    rNeD K v v H Q ∨ OQ.rTupS K false v v H Q ∨ OM.rLstS K v v H Q ∨ rNeDA v v H Q ∨ OQ.rOwnNe K T.C_Lengths (spIsOf K T.C_Lengths) E0 v v H Q ∨ OQ.rOwnNe K T.C_Numbers (spIsOf K T.C_Numbers) E0 v v H Q := by
  cases o with
  | non => exact .inl ⟨_, _, .non, .non, by decide +kernel, by decide +kernel, k⟩
  | int => exact .inl ⟨_, _, .int 0, .int 0, by decide +kernel, by decide +kernel, k⟩
  | bl => exact .inl ⟨_, _, .bl true, .bl true, by decide +kernel, by decide +kernel, k⟩
  | str => exact .inl ⟨_, _, .str _, .str _, by decide +kernel, by decide +kernel, by exact k⟩
  | lst e q => exact .inr (.inr (.inl ⟨_, _, _, rfl, rfl, SqL.of e, SqL.of e, q, k⟩))
  | tup e q => exact .inr (.inl ⟨_, _, _, rfl, rfl, SqT.of e, SqT.of e, q, k⟩)
  | dct e => exact .inr (.inr (.inr (.inl ⟨_, _, _, _, rfl, rfl, e, e, rfl, (fun _ h => nomatch h), k⟩)))
  | len e =>
    have ty := lenTy T e
    obtain ⟨dx, e⟩ := e
    exact .inr (.inr (.inr (.inr (.inl ⟨_, _, _, _, rfl, e, ty, T.nf_Lengths, _, _, _, _, rfl, ty, T.kS_Lengths, true, rfl, k⟩))))
  | nums e =>
    have ty := numsTy T e
    obtain ⟨dx, a, b, e, _⟩ := e
    exact .inr (.inr (.inr (.inr (.inr ⟨_, _, _, _, rfl, e, ty, T.nf_Numbers, _, _, _, _, rfl, ty, T.kS_Numbers, true, rfl, k⟩))))
theorem kxo {H H' : Hp} {h c p : Addr} {o : HO} (x : HandAt H h c) (k : Kx h H H') (e : H p = some o) (no : ∀ xs, o ≠ .lst xs) : H' p = some o := by
  refine k _ _ (fun z => ?_) e
  obtain ⟨cs, q, q', m, n, e1, _⟩ := x
  subst z
  rw [e] at e1
  cases e1
  exact no _ rfl
theorem lenKx {H H' : Hp} {h c p C : Addr} (l : LenAt C H p) (x : HandAt H h c) (k : Kx h H H') : LenAt C H' p := by
  obtain ⟨dx, e⟩ := l
  exact ⟨dx, kxo x k e fun _ z => by cases z⟩
theorem numsKx {H H' : Hp} {h c p C D : Addr} (l : NumsAt C D H p) (x : HandAt H h c) (k : Kx h H H') : NumsAt C D H' p := by
  obtain ⟨dx, a, b, e, ⟨d1, e1⟩, ⟨d2, e2⟩⟩ := l
  exact ⟨dx, a, b, kxo x k e (fun _ z => by cases z), ⟨d1, kxo x k e1 (fun _ z => by cases z)⟩, ⟨d2, kxo x k e2 (fun _ z => by cases z)⟩⟩
def spLaw (K : PySem.W.Frag) : Sp := fun vs H Q _ => ∃ (a : Addr) (ns : List Int), vs = [.ref a] ∧ SqL K H a (ns.map V.int) ∧ ns.length ≤ 63 ∧ ∀ H', Q (.bl true) H'
theorem ok_law (T : Top K mg) : FnOk P w K mg base CX0 18 T.f_law T.fd_law ["script"] (spLaw K) := by
  refine T.F_law.ok sc_law (fun vs H Q E h => ?_) (fun cdv A outer s H vs Q E hr h => ?_)
  · obtain ⟨a, ns, rfl, _⟩ := h; rfl
  · obtain ⟨ad, ns, rfl, hq, hl, k⟩ := h
    refine ⟨_, (pss_cons (ps_set (i := 1) sc_law.nd rfl (Or.inl rfl) (pe_call (ok_law_hand T) (hr.mono (by decide)) (by rfl) T.g_law_hand T.F_law_hand.kp T.b_law_hand .nil pass0 (pa_cons (pv 0) pa_nil)))
 (pss_cons (ps_set (i := 2) sc_law.nd rfl (Or.inl rfl) (pe_call (ok_law_small T) (hr.mono (by decide)) (by rfl) T.g_law_small T.F_law_small.kp T.b_law_small .nil pass0 (pa_cons (pv 1) pa_nil)))
 (pss_cons (ps_set (i := 3) sc_law.nd rfl (Or.inl rfl) (pe_call (ok_law_small T) (hr.mono (by decide)) (by rfl) T.g_law_small T.F_law_small.kp T.b_law_small .nil pass0 (pa_cons (pv 1) pa_nil)))
 (pss_cons (ps_set (i := 4) sc_law.nd rfl (Or.inl rfl) (pe_call (ok_law_kept T) (hr.mono (by decide)) (by rfl) T.g_law_kept T.F_law_kept.kp T.b_law_kept .nil pass0 (pa_cons (pv 2) pa_nil)))
 (pss_cons (ps_set (i := 5) sc_law.nd rfl (Or.inl rfl) (pe_call (ok_law_kept T) (hr.mono (by decide)) (by rfl) T.g_law_kept T.F_law_kept.kp T.b_law_kept .nil pass0 (pa_cons (pv 3) pa_nil)))
 (pss_cons (ps_for PassesOwn.never rfl (pi_list (pe_lst (pa_cons (pe_tup (pa_cons (pv 4) (pa_cons (pv 2) pa_nil))) (pa_cons (pe_tup (pa_cons (pv 5) (pa_cons (pv 3) pa_nil))) pa_nil)))) (pg_tup (by rfl) (pgs_cons (pg_name (i := 6) sc_law.nd rfl (Or.inl rfl)) (pgs_cons (pg_name (i := 7) sc_law.nd rfl (Or.inl rfl)) pgs_nil)))
 (pss_one (ps_if (PW.pt (pw_or (pt_not (pt_val (pe_call (ok_law_is_told T) (hr.mono (by decide)) (by rfl) T.g_law_is_told T.F_law_is_told.kp T.b_law_is_told .nil pass0 (pa_cons (pe_call (ok_turned T) (hr.mono (by decide)) (by rfl) T.g_turned T.F_turned.kp T.b_turned .nil OQ.passN (pa_cons (pv 6) pa_nil)) (pa_cons (pe_call (ok_law_turned T) (hr.mono (by decide)) (by rfl) T.g_law_turned T.F_law_turned.kp T.b_law_turned .nil pass0 (pa_cons (pv 7) pa_nil)) pa_nil))))) (pw_or1 (pt_cmpR (OQ.op_ownNe (ok_Reckoning__eq T) (hr.mono (by decide)) T.m_Reckoning__eq.at_ T.m_Reckoning__eq.fn T.ne_Reckoning T.hm_Reckoning T.b_Reckoning__eq pass0) (pe_call (ok_turned T) (hr.mono (by decide)) (by rfl) T.g_turned T.F_turned.kp T.b_turned .nil OQ.passN (pa_cons (pe_call (ok_turned T) (hr.mono (by decide)) (by rfl) T.g_turned T.F_turned.kp T.b_turned .nil OQ.passN (pa_cons (pv 6) pa_nil)) pa_nil)) (pv 6) (nomark _)))))
 (pss_one (ps_ret pe_bl))
 pss_nil)))
 (pss_cons (ps_set (i := 7) sc_law.nd rfl (Or.inl rfl) (pe_call (ok_law_asked T) (hr.mono (by decide)) (by rfl) T.g_law_asked T.F_law_asked.kp T.b_law_asked .nil pass0 (pa_cons pe_int (pa_cons (pv 4) (pa_cons (pv 5) pa_nil)))))
 (C8.pss_cut (ps_if (pt_cmpR op_gt (pe_op op_mul (pe_callB RD.c_len (by rfl) T.n_len (by decide +kernel) (pa_cons (pe_ix ix_list (pv 2) pe_int (fun _ _ => rfl)) pa_nil)) (pe_callB RD.c_len (by rfl) T.n_len (by decide +kernel) (pa_cons (pe_ix ix_list (pv 3) pe_int (fun _ _ => rfl)) pa_nil))) pe_int (nomark _))
 (pss_one (ps_if (pt_cmpR (op_neD hr.units) (pv 7) (pe_tup (pa_cons pe_str (pa_cons pe_int pa_nil))) (nomark _))
 (pss_one (ps_ret pe_bl))
 pss_nil))
 (pss_one (ps_if (PW.pt (pw_or (pt_cmpR op_ne (pe_ix ix_tup (pv 7) pe_int (fun _ _ => rfl)) pe_str (nomark _)) (pw_or1 (pt_not (pt_val (pe_call (ok_law_is_told T) (hr.mono (by decide)) (by rfl) T.g_law_is_told T.F_law_is_told.kp T.b_law_is_told .nil pass0 (pa_cons (pe_ix ix_tup (pv 7) pe_int (fun _ _ => rfl)) (pa_cons (pe_call (ok_law_beside T) (hr.mono (by decide)) (by rfl) T.g_law_beside T.F_law_beside.kp T.b_law_beside .nil pass0 (pa_cons (pv 2) (pa_cons (pv 3) pa_nil))) pa_nil))))))))
 (pss_one (ps_ret pe_bl))
 pss_nil)))
 (pss_cons (ps_set (i := 8) sc_law.nd rfl (Or.inl rfl) (pe_call (ok_law_kept T) (hr.mono (by decide)) (by rfl) T.g_law_kept T.F_law_kept.kp T.b_law_kept .nil pass0 (pa_cons (pe_call (ok_law_made T) (hr.mono (by decide)) (by rfl) T.g_law_made T.F_law_made.kp T.b_law_made .nil pass0 (pa_cons (pv 1) pa_nil)) pa_nil)))
 (pss_cons (ps_set (i := 9) sc_law.nd rfl (Or.inl rfl) (pe_ix ix_list (pe_lst (pa_cons pe_non (pa_cons pe_int (pa_cons pe_bl (pa_cons pe_str (pa_cons (pv 2) (pa_cons (pe_tup (pa_cons (pe_ix ix_list (pv 2) pe_int (fun _ _ => rfl)) (pa_cons (pe_ix ix_list (pv 2) pe_int (fun _ _ => rfl)) pa_nil))) (pa_cons pe_dnewK (pa_cons (pe_make0 T.M_Lengths (ok_Lengths__init T) (hr.mono (by decide)) (by rfl) T.g_Lengths T.b_Lengths__init .nil pass0) (pa_cons (pe_make0 T.M_Numbers (ok_Numbers__init T) (hr.mono (by decide)) (by rfl) T.g_Numbers T.b_Numbers__init .nil pass0) pa_nil)))))))))) (pe_call (ok_law_draw T) (hr.mono (by decide)) (by rfl) T.g_law_draw T.F_law_draw.kp T.b_law_draw .nil pass0 (pa_cons (pv 1) (pa_cons pe_int pa_nil))) (fun _ _ => rfl)))
 (pss_cons (ps_for PassesOwn.never rfl (pi_list (pe_lst (pa_cons (pe_tup (pa_cons pe_int (pa_cons (pv 9) (pa_cons (pv 8) pa_nil)))) (pa_cons (pe_tup (pa_cons pe_int (pa_cons (pv 9) (pa_cons (pv 8) pa_nil)))) (pa_cons (pe_tup (pa_cons pe_int (pa_cons (pv 8) (pa_cons (pv 9) pa_nil)))) (pa_cons (pe_tup (pa_cons pe_int (pa_cons (pv 9) (pa_cons pe_non pa_nil)))) pa_nil)))))) (pg_tup (by rfl) (pgs_cons (pg_name (i := 10) sc_law.nd rfl (Or.inl rfl)) (pgs_cons (pg_name (i := 11) sc_law.nd rfl (Or.inl rfl)) (pgs_cons (pg_name (i := 12) sc_law.nd rfl (Or.inl rfl)) pgs_nil))))
 (pss_cons (ps_set (i := 7) sc_law.nd rfl (Or.inl rfl) (pe_call (ok_law_asked T) (hr.mono (by decide)) (by rfl) T.g_law_asked T.F_law_asked.kp T.b_law_asked .nil pass0 (pa_cons (pv 10) (pa_cons (pv 11) (pa_cons (pv 12) pa_nil)))))
 (pss_one (ps_if (PW.pt (pw_or (pt_cmpR op_ne (pe_ix ix_tup (pv 7) pe_int (fun _ _ => rfl)) pe_str (nomark _)) (pw_or (pt_cmpR (OQ.op_or (op_neD hr.units) (OQ.op_or (OQ.op_neTS (Nat.lt_of_succ_lt (hu_of hr))) (OQ.op_or (OM.op_neLS (Nat.lt_of_succ_lt (hu_of hr))) (OQ.op_or (op_ne_dictA (Nat.lt_of_succ_lt (hu_of hr))) (OQ.op_or (OQ.op_ownNe (ok_Lengths__eq T) (hr.mono (by decide)) T.m_Lengths__eq.at_ T.m_Lengths__eq.fn T.ne_Lengths T.hm_Lengths T.b_Lengths__eq pass0) (OQ.op_ownNe (ok_Numbers__eq T) (hr.mono (by decide)) T.m_Numbers__eq.at_ T.m_Numbers__eq.fn T.ne_Numbers T.hm_Numbers T.b_Numbers__eq pass0)))))) (pe_ix ix_tup (pv 7) pe_int (fun _ _ => rfl)) (pv 9) (nomark _)) (pw_or1 (pt_cmpR op_ne (pe_callB call_isi (by rfl) T.n_isinstance (by decide +kernel) (pa_cons (pe_ix ix_tup (pv 7) pe_int (fun _ _ => rfl)) (pa_cons (pe_bltn (v := V.ty "bool") (by rfl) T.n_bool (by decide +kernel) rfl) pa_nil))) (pe_callB call_isi (by rfl) T.n_isinstance (by decide +kernel) (pa_cons (pv 9) (pa_cons (pe_bltn (v := V.ty "bool") (by rfl) T.n_bool (by decide +kernel) rfl) pa_nil))) (nomark _))))))
 (pss_one (ps_ret pe_bl))
 pss_nil))))
 (pss_one (ps_ret (pe_and (pe_call (ok_law_is_told T) (hr.mono (by decide)) (by rfl) T.g_law_is_told T.F_law_is_told.kp T.b_law_is_told .nil pass0 (pa_cons (pv 4) (pa_cons (pv 2) pa_nil))) (pe_one (pe_call (ok_law_is_told T) (hr.mono (by decide)) (by rfl) T.g_law_is_told T.F_law_is_told.kp T.b_law_is_told .nil pass0 (pa_cons (pv 5) (pa_cons (pv 3) pa_nil)))))))))))))))))), ?_⟩
    walk_at "tx"
    refine ⟨ad, ns, rfl, hq, hl, fun h c H1 hT1 s1 _ => ?_⟩
    clear hq s1
    walk_at "tx"
    refine ⟨h, c, rfl, hT1, fun t1 n J M z o H2 hT2 k2 tl1 n2 n8 gd => ?_⟩
    clear k2 hT1
    walk_at "tx"
    refine ⟨h, c, rfl, hT2, fun t2 m J' M' z' o' H3 hT3 k3 tl2 m2 m8 gd' => ?_⟩
    replace tl1 := tl1.kx k3 hT2 n2
    clear k3 hT2
    walk_at "tx"
    refine ⟨t1, n, J, M, z, o, rfl, tl1, n2, by omega, gd, fun x1 H4 s4 rf1 => ?_⟩
    replace tl1 := tl1.same s4
    replace tl2 := tl2.same s4
    replace hT3 := hT3.same s4
    clear s4
    walk_at "tx"
    refine ⟨t2, m, J', M', z', o', rfl, tl2, m2, by omega, gd', fun x2 H5 s5 rf2 => ?_⟩
    replace tl1 := tl1.same s5
    replace tl2 := tl2.same s5
    replace rf1 := rf1.same s5
    replace hT3 := hT3.same s5
    clear s5
    walk_at "tx"
    refine ⟨by show 2 ≤ sizeLine; decide, fun p1 hp1 => ?_⟩
    have s6 := same_upd (o := HO.tup [V.ref x1, V.ref t1]) hp1
    have e1 : upd H5 p1 (.tup [.ref x1, .ref t1]) p1 = some (.tup [.ref x1, .ref t1]) := upd_same
    replace tl1 := tl1.same s6
    replace tl2 := tl2.same s6
    replace rf1 := rf1.same s6
    replace rf2 := rf2.same s6
    replace hT3 := hT3.same s6
    clear s6 hp1
    generalize upd H5 p1 (.tup [.ref x1, .ref t1]) = H6 at *
    walk_at "tx"
    refine ⟨by show 2 ≤ sizeLine; decide, fun p2 hp2 => ?_⟩
    have s7 := same_upd (o := HO.tup [V.ref x2, V.ref t2]) hp2
    have e2 : upd H6 p2 (.tup [.ref x2, .ref t2]) p2 = some (.tup [.ref x2, .ref t2]) := upd_same
    replace e1 := s7 _ _ e1
    replace tl1 := tl1.same s7
    replace tl2 := tl2.same s7
    replace rf1 := rf1.same s7
    replace rf2 := rf2.same s7
    replace hT3 := hT3.same s7
    clear s7 hp2
    generalize upd H6 p2 (.tup [.ref x2, .ref t2]) = H7 at *
    walk_at "tx"
    refine ⟨by show 2 ≤ sizeLine; decide, fun L hL => ?_⟩
    have s8 := same_upd (o := HO.lst [V.ref p1, V.ref p2]) hL
    have eL : upd H7 L (.lst [.ref p1, .ref p2]) L = some (.lst [.ref p1, .ref p2]) := upd_same
    replace e1 := s8 _ _ e1
    replace e2 := s8 _ _ e2
    replace tl1 := tl1.same s8
    replace tl2 := tl2.same s8
    replace rf1 := rf1.same s8
    replace rf2 := rf2.same s8
    replace hT3 := hT3.same s8
    clear s8 hL
    generalize upd H7 L (.lst [.ref p1, .ref p2]) = H8 at *
    walk_at "tx"
    refine RD.f_list (K := K) (a := L) (xs := [.ref p1, .ref p2]) (fun i σ' H' => Same H8 H' ∧ ∃ v6 v7 : Option V, σ' = [some (.ref ad), some (.ref h), some (.ref t1), some (.ref t2), some (.ref x1), some (.ref x2), v6, v7, none, none, none, none, none]) ⟨Same.refl _, _, _, rfl⟩ (fun i σ' H' _ q => SqL.of (q.1 _ _ eL)) ?_ ?_
    · rintro i v σ' H9 ev ⟨s9, v6, v7, rfl⟩
      obtain ⟨p, x, t, n, J, M, z, o, rfl, ep, rf, tl, n8, gd⟩ : ∃ (p x t : Addr) (n : Nat) (J M : Nat → Nat → Nat) (z o : Nat), v = .ref p ∧ H9 p = some (.tup [.ref x, .ref t]) ∧ RekF K T.C_Reckoning H9 x n J M z o ∧ ToldL H9 t n J M z o ∧ n ≤ 8 ∧ Gd n J M z o := by
        match i, ev with
        | 0, ev => cases ev; exact ⟨p1, x1, t1, n, J, M, z, o, rfl, s9 _ _ e1, rf1.same s9, tl1.same s9, n8, gd⟩
        | 1, ev => cases ev; exact ⟨p2, x2, t2, m, J', M', z', o', rfl, s9 _ _ e2, rf2.same s9, tl2.same s9, m8, gd'⟩
      refine RD.d_two rfl (SqT.of ep) ?_
      walk_at "tx"
      refine ⟨_, rfl, .inl ⟨x, n, J, M, z, o, rfl, rf, fun y H10 s10 ry => ?_⟩⟩
      replace rf := rf.same s10
      replace tl := tl.same s10
      walk_at "tx"
      refine ⟨t, n, J, M, z, o, rfl, tl, by omega, fun t' H11 s11 tl' => ?_⟩
      replace rf := rf.same s11
      replace ry := ry.same s11
      obtain ⟨a, b, et, ta, tb⟩ := tl'
      walk_at "tx"
      refine ⟨y, t', a, b, n, J, _, z, o, rfl, ry, et, ta.x, tb.x, fun H12 s12 => ⟨true, rfl, ?_⟩⟩
      replace rf := rf.same s12
      have s9c := ((s9.trans s10).trans s11).trans s12
      clear s9 s10 s11 s12 ry et ta tb tl
      refine RD.d_iteNT ?_
      walk_at "tx"
      refine ⟨_, rfl, .inl ⟨x, n, J, M, z, o, rfl, rf, fun y1 H13 s13 ry1 => ?_⟩⟩
      replace rf := rf.same s13
      walk_at "tx"
      refine ⟨_, rfl, .inl ⟨y1, n, J, _, z, o, rfl, ry1, fun y2 H14 s14 ry2 => ?_⟩⟩
      replace rf := rf.same s14
      walk_at "tx"
      obtain ⟨dx, _, _, _, _, _, ex, _⟩ := id ry2
      refine ⟨y2, dx, _, _, rfl, ex, rfTy T rf, T.nfR, y2, x, n, J, _, z, o, n, J, M, z, o, rfl, ry2, rf, ?_⟩
      rw [decide_eq_true ⟨rfl, rfl, rfl, rfl⟩]
      refine ⟨true, rfl, ?_⟩
      walk_at "tx"
      exact ⟨(s9c.trans s13).trans s14, _, _, rfl⟩
    · rintro σ' H9 ⟨s9, v6, v7, rfl⟩
      replace tl1 := tl1.same s9
      replace tl2 := tl2.same s9
      replace rf1 := rf1.same s9
      replace rf2 := rf2.same s9
      replace hT3 := hT3.same s9
      clear s9 e1 e2 eL
      walk_at "tx"
      refine ⟨1, .ref x1, .ref x2, rfl, .inl ⟨rfl, x1, n, J, M, z, o, x2, m, J', M', z', o', rfl, rfl, rf1, rf2, fun p H10 s10 hp => ?_⟩⟩
      replace tl1 := tl1.same s10
      replace tl2 := tl2.same s10
      replace rf1 := rf1.same s10
      replace rf2 := rf2.same s10
      replace hT3 := hT3.same s10
      clear s10
      walk_at "tx"
      refine RD.d_cut (fun σ' H' => σ' = [some (.ref ad), some (.ref h), some (.ref t1), some (.ref t2), some (.ref x1), some (.ref x2), v6, some (.ref p), none, none, none, none, none] ∧ Same H10 H') ?_ ?_
      · obtain ⟨a, b, et, ta, tb⟩ := id tl1
        obtain ⟨a', b', et', ta', tb'⟩ := id tl2
        walk_at "tx"
        refine ta.x.len ?_
        walk_at "tx"
        refine ta'.x.len ?_
        walk_at "tx"
        refine RD.iteD (fun c => ?_) (fun c => ?_)
        · have nm16 : 16 < n * m := by rw [← Int.natCast_mul] at c; omega
          rcases hp with ⟨nm, _⟩ | ⟨nm, ep⟩
          · exact absurd nm (by omega)
          walk_at "tx"
          refine ⟨by show 2 ≤ sizeLine; decide, fun q hq => ?_⟩
          have sq := same_upd (o := HO.tup [V.str "many", V.int 0]) hq
          have eq : upd H10 q (.tup [.str "many", .int 0]) q = some (.tup [.str "many", .int 0]) := upd_same
          replace ep := sq _ _ ep
          generalize upd H10 q (.tup [.str "many", .int 0]) = H11 at *
          refine ⟨_, _, .tup (SqT.of ep) (.cons (.str _) (.cons (.int _) .nil)), .tup (SqT.of eq) (.cons (.str _) (.cons (.int _) .nil)), by decide +kernel, by decide +kernel, ?_⟩
          rw [show PyData.eqv (.tuple [.str "many", .int 0]) (.tuple [.str "many", .int 0]) = true by decide +kernel]
          walk_at "tx"
          exact ⟨rfl, sq⟩
        · have nm16 : n * m ≤ 16 := by rw [← Int.natCast_mul] at c; omega
          rcases hp with ⟨nm, t, ep, rt⟩ | ⟨nm, _⟩
          · walk_at "tx"
            rw [decide_eq_true rfl]
            refine RD.d_iteNT ?_
            walk_at "tx"
            refine ⟨t1, t2, n, m, J, M, J', M', z, o, z', o', rfl, tl1, tl2, by omega, by omega, nm, fun t' H11 s11 tl' => ?_⟩
            obtain ⟨a2, b2, et2, ta2, tb2⟩ := tl'
            replace rt := rt.same s11
            walk_at "tx"
            refine ⟨t, t', a2, b2, n * m, _, _, _, _, rfl, rt, et2, ta2.x, tb2.x, fun H12 s12 => ⟨true, rfl, ?_⟩⟩
            refine RD.d_iteNT ?_
            walk_at "tx"
            exact ⟨rfl, s11.trans s12⟩
          · exact absurd nm (by omega)
      · rintro σ' H11 ⟨rfl, s11⟩
        replace tl1 := tl1.same s11
        replace tl2 := tl2.same s11
        replace rf1 := rf1.same s11
        replace rf2 := rf2.same s11
        replace hT3 := hT3.same s11
        clear s11 hp
        walk_at "tx"
        refine ⟨h, c, rfl, hT3, fun t3 N J3 M3 z3 o3 H12 hT12 k12 tl3 N2 N16 g3 => ?_⟩
        replace tl1 := tl1.kx k12 hT3 n2
        replace tl2 := tl2.kx k12 hT3 m2
        replace rf1 := rf1.kxh hT3 k12
        replace rf2 := rf2.kxh hT3 k12
        clear k12 hT3
        walk_at "tx"
        refine ⟨t3, N, J3, M3, z3, o3, rfl, tl3, N2, N16, g3, fun x3 H13 s13 rf3 => ?_⟩
        replace tl1 := tl1.same s13
        replace tl2 := tl2.same s13
        replace rf1 := rf1.same s13
        replace rf2 := rf2.same s13
        replace hT12 := hT12.same s13
        clear s13 tl3
        obtain ⟨a, b, et, ta, tb⟩ := id tl1
        walk_at "tx"
        refine ⟨by show 2 ≤ sizeLine; decide, fun pt hpt => ?_⟩
        have s14 := same_upd (o := HO.tup [V.ref a, V.ref b]) hpt
        have ept : upd H13 pt (.tup [.ref a, .ref b]) pt = some (.tup [.ref a, .ref b]) := upd_same
        replace tl1 := tl1.same s14
        replace tl2 := tl2.same s14
        replace rf1 := rf1.same s14
        replace rf2 := rf2.same s14
        replace rf3 := rf3.same s14
        replace hT12 := hT12.same s14
        clear s14 hpt et ta tb
        generalize upd H13 pt (.tup [.ref a, .ref b]) = H14 at *
        walk_at "tx"
        intro pd hpd
        have s15 := same_upd (o := HO.dK []) hpd
        have epd : upd H14 pd (.dK []) pd = some (.dK []) := upd_same
        replace ept := s15 _ _ ept
        replace tl1 := tl1.same s15
        replace tl2 := tl2.same s15
        replace rf1 := rf1.same s15
        replace rf2 := rf2.same s15
        replace rf3 := rf3.same s15
        replace hT12 := hT12.same s15
        clear s15 hpd
        generalize upd H14 pd (.dK []) = H15 at *
        walk_at "tx"
        intro y1 d1 ny1 nd1 ne1
        have s16 := same_made (C := T.C_Lengths) ny1 nd1 ne1
        refine ⟨y1, d1, rfl, upd_same, fun H16 kx le => ⟨rfl, ?_⟩⟩
        have sL : Same H15 H16 := fun b' u e => kx _ _ (ne_of_none e ny1) (s16 _ _ e)
        replace ept := sL _ _ ept
        replace epd := sL _ _ epd
        replace tl1 := tl1.same sL
        replace tl2 := tl2.same sL
        replace rf1 := rf1.same sL
        replace rf2 := rf2.same sL
        replace rf3 := rf3.same sL
        replace hT12 := hT12.same sL
        clear s16 kx ny1 nd1 ne1 sL
        walk_at "tx"
        intro y2 d2 ny2 nd2 ne2
        have s17 := same_made (C := T.C_Numbers) ny2 nd2 ne2
        refine ⟨y2, d2, rfl, upd_same, fun H17 kx nu => ⟨rfl, ?_⟩⟩
        have sN : Same H16 H17 := fun b' u e => kx _ _ (ne_of_none e ny2) (s17 _ _ e)
        replace ept := sN _ _ ept
        replace epd := sN _ _ epd
        replace le := le.same sN
        replace tl1 := tl1.same sN
        replace tl2 := tl2.same sN
        replace rf1 := rf1.same sN
        replace rf2 := rf2.same sN
        replace rf3 := rf3.same sN
        replace hT12 := hT12.same sN
        clear s17 kx ny2 nd2 ne2 sN
        walk_at "tx"
        refine ⟨by show 9 ≤ sizeLine; decide, fun W hW => ?_⟩
        have s18 := same_upd (o := HO.lst [V.non, V.int 0, V.bl true, V.str "", V.ref t1, V.ref pt, V.ref pd, V.ref y1, V.ref y2]) hW
        have eW : upd H17 W (.lst [V.non, V.int 0, V.bl true, V.str "", V.ref t1, V.ref pt, V.ref pd, V.ref y1, V.ref y2]) W = some (.lst [V.non, V.int 0, V.bl true, V.str "", V.ref t1, V.ref pt, V.ref pd, V.ref y1, V.ref y2]) := upd_same
        have nW := (hT12.ne hW).1
        replace ept := s18 _ _ ept
        replace epd := s18 _ _ epd
        replace le := le.same s18
        replace nu := nu.same s18
        replace tl1 := tl1.same s18
        replace tl2 := tl2.same s18
        replace rf1 := rf1.same s18
        replace rf2 := rf2.same s18
        replace rf3 := rf3.same s18
        replace hT12 := hT12.same s18
        clear s18 hW
        generalize upd H17 W (.lst [V.non, V.int 0, V.bl true, V.str "", V.ref t1, V.ref pt, V.ref pd, V.ref y1, V.ref y2]) = H18 at *
        walk_at "tx"
        refine ⟨h, c, 9, rfl, hT12, by decide, log2_lt (by decide), fun r H19 r0 r9 hT19 b19 => ?_⟩
        obtain ⟨r, rfl⟩ := Int.eq_ofNat_of_zero_le r0
        have k19 := b19.kx
        replace eW := k19 _ _ nW eW
        replace tl1 := tl1.kx k19 hT12 n2
        replace tl2 := tl2.kx k19 hT12 m2
        replace rf1 := rf1.kxh hT12 k19
        replace rf2 := rf2.kxh hT12 k19
        replace rf3 := rf3.kxh hT12 k19
        replace ept := kxo hT12 k19 ept (fun _ z => by cases z)
        replace epd := kxo hT12 k19 epd (fun _ z => by cases z)
        replace le := lenKx le hT12 k19
        replace nu := numsKx nu hT12 k19
        obtain ⟨a, b, et, ta, tb⟩ := id tl1
        obtain ⟨v, ev, od⟩ : ∃ v, [V.non, V.int 0, V.bl true, V.str "", V.ref t1, V.ref pt, V.ref pd, V.ref y1, V.ref y2][r]? = some v ∧ Odd K T.C_Lengths T.C_Numbers T.C_Ratio H19 v := by
          have : r < 9 := by omega
          match r, this with
          | 0, _ => exact ⟨_, rfl, .non⟩
          | 1, _ => exact ⟨_, rfl, .int⟩
          | 2, _ => exact ⟨_, rfl, .bl⟩
          | 3, _ => exact ⟨_, rfl, .str⟩
          | 4, _ => exact ⟨_, rfl, .lst et (by intro u hu; simp only [List.mem_cons, List.not_mem_nil, or_false] at hu; rcases hu with rfl | rfl | rfl | rfl; exact .inr ⟨_, rfl⟩; exact .inr ⟨_, rfl⟩; exact .inl rfl; exact .inl rfl)⟩
          | 5, _ => exact ⟨_, rfl, .tup ept (by intro u hu; simp only [List.mem_cons, List.not_mem_nil, or_false] at hu; rcases hu with rfl | rfl; exact .inr ⟨_, rfl⟩; exact .inr ⟨_, rfl⟩)⟩
          | 6, _ => exact ⟨_, rfl, .dct epd⟩
          | 7, _ => exact ⟨_, rfl, .len le⟩
          | 8, _ => exact ⟨_, rfl, .nums nu⟩
        clear b19 k19 hT12 hT19 ept epd le nu et ta tb
        walk_at "tx"
        refine RD.d_ixL (SqL.of eW) (atI_nat ev) ?_
        clear eW ev
        walk_at "tx"
        refine ⟨by show 3 ≤ sizeLine; decide, fun q1 hq1 => ?_⟩
        have sq1 := same_upd (o := HO.tup [V.int 0, v, V.ref x3]) hq1
        have eq1 : upd H19 q1 (.tup [V.int 0, v, V.ref x3]) q1 = some (.tup [V.int 0, v, V.ref x3]) := upd_same
        replace tl1 := tl1.same sq1
        replace tl2 := tl2.same sq1
        replace rf1 := rf1.same sq1
        replace rf2 := rf2.same sq1
        replace rf3 := rf3.same sq1
        replace od := od.same sq1
        clear sq1 hq1
        generalize upd H19 q1 (.tup [V.int 0, v, V.ref x3]) = G1 at *
        walk_at "tx"
        refine ⟨by show 3 ≤ sizeLine; decide, fun q2 hq2 => ?_⟩
        have sq2 := same_upd (o := HO.tup [V.int 1, v, V.ref x3]) hq2
        have eq2 : upd G1 q2 (.tup [V.int 1, v, V.ref x3]) q2 = some (.tup [V.int 1, v, V.ref x3]) := upd_same
        replace eq1 := sq2 _ _ eq1
        replace tl1 := tl1.same sq2
        replace tl2 := tl2.same sq2
        replace rf1 := rf1.same sq2
        replace rf2 := rf2.same sq2
        replace rf3 := rf3.same sq2
        replace od := od.same sq2
        clear sq2 hq2
        generalize upd G1 q2 (.tup [V.int 1, v, V.ref x3]) = G2 at *
        walk_at "tx"
        refine ⟨by show 3 ≤ sizeLine; decide, fun q3 hq3 => ?_⟩
        have sq3 := same_upd (o := HO.tup [V.int 1, V.ref x3, v]) hq3
        have eq3 : upd G2 q3 (.tup [V.int 1, V.ref x3, v]) q3 = some (.tup [V.int 1, V.ref x3, v]) := upd_same
        replace eq1 := sq3 _ _ eq1
        replace eq2 := sq3 _ _ eq2
        replace tl1 := tl1.same sq3
        replace tl2 := tl2.same sq3
        replace rf1 := rf1.same sq3
        replace rf2 := rf2.same sq3
        replace rf3 := rf3.same sq3
        replace od := od.same sq3
        clear sq3 hq3
        generalize upd G2 q3 (.tup [V.int 1, V.ref x3, v]) = G3 at *
        walk_at "tx"
        refine ⟨by show 3 ≤ sizeLine; decide, fun q4 hq4 => ?_⟩
        have sq4 := same_upd (o := HO.tup [V.int 1, v, V.non]) hq4
        have eq4 : upd G3 q4 (.tup [V.int 1, v, V.non]) q4 = some (.tup [V.int 1, v, V.non]) := upd_same
        replace eq1 := sq4 _ _ eq1
        replace eq2 := sq4 _ _ eq2
        replace eq3 := sq4 _ _ eq3
        replace tl1 := tl1.same sq4
        replace tl2 := tl2.same sq4
        replace rf1 := rf1.same sq4
        replace rf2 := rf2.same sq4
        replace rf3 := rf3.same sq4
        replace od := od.same sq4
        clear sq4 hq4
        generalize upd G3 q4 (.tup [V.int 1, v, V.non]) = G4 at *
        walk_at "tx"
        refine ⟨by show 4 ≤ sizeLine; decide, fun W2 hW2 => ?_⟩
        have sW2 := same_upd (o := HO.lst [V.ref q1, V.ref q2, V.ref q3, V.ref q4]) hW2
        have eW2 : upd G4 W2 (.lst [V.ref q1, V.ref q2, V.ref q3, V.ref q4]) W2 = some (.lst [V.ref q1, V.ref q2, V.ref q3, V.ref q4]) := upd_same
        replace eq1 := sW2 _ _ eq1
        replace eq2 := sW2 _ _ eq2
        replace eq3 := sW2 _ _ eq3
        replace eq4 := sW2 _ _ eq4
        replace tl1 := tl1.same sW2
        replace tl2 := tl2.same sW2
        replace rf1 := rf1.same sW2
        replace rf2 := rf2.same sW2
        replace rf3 := rf3.same sW2
        replace od := od.same sW2
        clear sW2 hW2
        generalize upd G4 W2 (.lst [V.ref q1, V.ref q2, V.ref q3, V.ref q4]) = G5 at *
        walk_at "tx"
        refine RD.f_list (K := K) (a := W2) (xs := [V.ref q1, V.ref q2, V.ref q3, V.ref q4]) (fun i σ' H' => Same G5 H' ∧ ∃ v7 v10 v11 v12 : Option V, σ' = [some (.ref ad), some (.ref h), some (.ref t1), some (.ref t2), some (.ref x1), some (.ref x2), v6, v7, some (.ref x3), some v, v10, v11, v12]) ⟨Same.refl _, _, _, _, _, rfl⟩ (fun i σ' H' _ q => SqL.of (q.1 _ _ eW2)) ?_ ?_
        · rintro i w1 σ' G6 ew ⟨s6, v7, v10, v11, v12, rfl⟩
          replace od := od.same s6
          replace rf3 := rf3.same s6
          obtain ⟨q, kk, u1, u2, rfl, eq, hb⟩ : ∃ (q : Addr) (kk : Int) (u1 u2 : V), w1 = .ref q ∧ G6 q = some (.tup [.int kk, u1, u2]) ∧
              ((NoR K T.C_Reckoning G6 u1 ∧ v = u1) ∨ (kk ≠ 0 ∧ (∃ (x n : Nat) (J M : Nat → Nat → Nat) (z o : Nat), u1 = .ref x ∧ RekF K T.C_Reckoning G6 x n J M z o) ∧ NoR K T.C_Reckoning G6 u2 ∧ v = u2)) := by
            match i, ew with
            | 0, ew => cases ew; exact ⟨q1, 0, _, _, rfl, s6 _ _ eq1, .inl ⟨od.nor T, rfl⟩⟩
            | 1, ew => cases ew; exact ⟨q2, 1, _, _, rfl, s6 _ _ eq2, .inl ⟨od.nor T, rfl⟩⟩
            | 2, ew => cases ew; exact ⟨q3, 1, _, _, rfl, s6 _ _ eq3, .inr ⟨by decide, ⟨x3, N, J3, M3, z3, o3, rfl, rf3⟩, od.nor T, rfl⟩⟩
            | 3, ew => cases ew; exact ⟨q4, 1, _, _, rfl, s6 _ _ eq4, .inl ⟨od.nor T, rfl⟩⟩
          refine ⟨q, [.int kk, u1, u2], rfl, SqT.of eq, rfl, .int kk, [u1, u2], rfl, u1, [u2], rfl, u2, [], rfl, rfl, ?_⟩
          walk_at "tx"
          refine ⟨kk, u1, u2, rfl, .inr ⟨v, hb, fun p H11 s11 ep => ?_⟩⟩
          replace od := od.same s11
          walk_at "tx"
          rw [decide_eq_true rfl]
          refine RD.d_iteNT ?_
          walk_at "tx"
          refine od.ne T ?_
          walk_at "tx"
          obtain ⟨ty, b, hty, kb⟩ := od.isb T
          refine RD.d_isi (.ty _) hty kb ?_
          walk_at "tx"
          refine RD.d_isi (.ty _) hty kb ?_
          walk_at "tx"
          refine ⟨rfl, ?_⟩
          rw [decide_eq_true rfl]
          refine ⟨_, rfl, ?_⟩
          walk_at "tx"
          exact ⟨s6.trans s11, _, _, _, _, rfl⟩
        · rintro σ' G6 ⟨s6, v7, v10, v11, v12, rfl⟩
          replace tl1 := tl1.same s6
          replace tl2 := tl2.same s6
          replace rf1 := rf1.same s6
          replace rf2 := rf2.same s6
          obtain ⟨a, b, et, ta, tb⟩ := id tl1
          obtain ⟨a', b', et', ta', tb'⟩ := id tl2
          walk_at "tx"
          refine ⟨x1, t1, a, b, n, J, M, z, o, rfl, rf1, et, ta.x, tb.x, fun G7 s7 => ⟨true, rfl, ?_⟩⟩
          rw [if_pos rfl]
          walk_at "tx"
          exact ⟨x2, t2, a', b', m, J', M', z', o', rfl, rf2.same s7, s7 _ _ et', ta'.x.same s7, tb'.x.same s7, fun G8 _ => k G8⟩
end

theorem nf_self {K : PySem.W.Frag} {C : Addr} : PySem.W.notFirst K C (.ref C) = true := by unfold PySem.W.notFirst; simp
theorem all7 {K : PySem.W.Frag} {C : Addr} {ts : List String} (h : (ts.all fun t => decide (PySem.W.kitOne K (.type t) (.ref C) = some false)) = true) : ∀ t : String, t ∈ ts → PySem.W.kitOne K (.type t) (.ref C) = some false := fun t ht => of_decide_eq_true (List.all_eq_true.mp h t ht)
theorem vaH {r : Option PySem.W.CFound} {f : Addr} (h : (match r with | some (.val v) => decide (v = Value.ref f) | _ => false) = true) : r = some (.val (.ref f)) := by
  split at h
  · rw [of_decide_eq_true h]
  · cases h
theorem facts {P : Program} {w : World} {K : PySem.W.Frag} {h : Heap} {mg : Str → Option Value} {f : Addr} (X : K.In h) (G : h.Ns mainGlobals mg) (hfa : mg ("law" : Str) = some (.ref f)) (c : He.SaysD faH fnH K) (x : exH K = true) :
    ∃ fd : FuncData, (∀ (s : Shared) (v : Value), BindsTo s fd ⟨[v], []⟩ [("script", v)]) ∧ ∀ base : Heap, K.In base → base.Ns mainGlobals mg → FnOk P w K mg base CX0 18 f fd ["script"] (spLaw K) := by
  obtain ⟨fdWayError__init, DWayError__init⟩ := c.def_ 0 (d := dH_WayError__init) rfl
  have FWayError__init : Fun K _ _ s_WayError__init _ fdWayError__init := OQ.fun_of DWayError__init
  have bWayError__init := FWayError__init.binds (ps := ["self", "value"]) fun _ _ _ _ _ _ us hl => match us, hl with | [_, _], _ => rfl
  obtain ⟨fdTooMany__init, DTooMany__init⟩ := c.def_ 1 (d := dH_TooMany__init) rfl
  have FTooMany__init : Fun K _ _ s_TooMany__init _ fdTooMany__init := OQ.fun_of DTooMany__init
  have bTooMany__init := FTooMany__init.binds (ps := ["self"]) fun _ _ _ _ _ _ us hl => match us, hl with | [_], _ => rfl
  obtain ⟨fdis_integer, Dis_integer⟩ := c.def_ 2 (d := dH_is_integer) rfl
  have Fis_integer : Fun K _ _ s_is_integer _ fdis_integer := OQ.fun_of Dis_integer
  have bis_integer := Fis_integer.binds (ps := ["thing"]) fun _ _ _ _ _ _ us hl => match us, hl with | [_], _ => rfl
  obtain ⟨fdis_row, Dis_row⟩ := c.def_ 3 (d := dH_is_row) rfl
  have Fis_row : Fun K _ _ s_is_row _ fdis_row := OQ.fun_of Dis_row
  have bis_row := Fis_row.binds (ps := ["thing"]) fun _ _ _ _ _ _ us hl => match us, hl with | [_], _ => rfl
  obtain ⟨fdfirst_fault, Dfirst_fault⟩ := c.def_ 4 (d := dH_first_fault) rfl
  have Ffirst_fault : Fun K _ _ s_first_fault _ fdfirst_fault := OQ.fun_of Dfirst_fault
  have bfirst_fault := Ffirst_fault.binds (ps := ["joins", "products", "none", "one"]) fun _ _ _ _ _ _ us hl => match us, hl with | [_, _, _, _], _ => rfl
  obtain ⟨fdsize_fault, Dsize_fault⟩ := c.def_ 5 (d := dH_size_fault) rfl
  have Fsize_fault : Fun K _ _ s_size_fault _ fdsize_fault := OQ.fun_of Dsize_fault
  have bsize_fault := Fsize_fault.binds (ps := ["joins", "products", "none", "one"]) fun _ _ _ _ _ _ us hl => match us, hl with | [_, _, _, _], _ => rfl
  obtain ⟨fdis_square, Dis_square⟩ := c.def_ 6 (d := dH_is_square) rfl
  have Fis_square : Fun K _ _ s_is_square _ fdis_square := OQ.fun_of Dis_square
  have bis_square := Fis_square.binds (ps := ["many", "thing"]) fun _ _ _ _ _ _ us hl => match us, hl with | [_, _], _ => rfl
  obtain ⟨fdis_side, Dis_side⟩ := c.def_ 7 (d := dH_is_side) rfl
  have Fis_side : Fun K _ _ s_is_side _ fdis_side := OQ.fun_of Dis_side
  have bis_side := Fis_side.binds (ps := ["many", "thing"]) fun _ _ _ _ _ _ us hl => match us, hl with | [_, _], _ => rfl
  obtain ⟨fdis_below, Dis_below⟩ := c.def_ 8 (d := dH_is_below) rfl
  have Fis_below : Fun K _ _ s_is_below _ fdis_below := OQ.fun_of Dis_below
  have bis_below := Fis_below.binds (ps := ["many", "thing"]) fun _ _ _ _ _ _ us hl => match us, hl with | [_, _], _ => rfl
  obtain ⟨fdnone_fault, Dnone_fault⟩ := c.def_ 9 (d := dH_none_fault) rfl
  have Fnone_fault : Fun K _ _ s_none_fault _ fdnone_fault := OQ.fun_of Dnone_fault
  have bnone_fault := Fnone_fault.binds (ps := ["joins", "products", "none"]) fun _ _ _ _ _ _ us hl => match us, hl with | [_, _, _], _ => rfl
  obtain ⟨fdone_fault, Done_fault⟩ := c.def_ 10 (d := dH_one_fault) rfl
  have Fone_fault : Fun K _ _ s_one_fault _ fdone_fault := OQ.fun_of Done_fault
  have bone_fault := Fone_fault.binds (ps := ["products", "one"]) fun _ _ _ _ _ _ us hl => match us, hl with | [_, _], _ => rfl
  obtain ⟨fdidle_fault, Didle_fault⟩ := c.def_ 11 (d := dH_idle_fault) rfl
  have Fidle_fault : Fun K _ _ s_idle_fault _ fdidle_fault := OQ.fun_of Didle_fault
  have bidle_fault := Fidle_fault.binds (ps := ["joins"]) fun _ _ _ _ _ _ us hl => match us, hl with | [_], _ => rfl
  obtain ⟨fdswap_fault, Dswap_fault⟩ := c.def_ 12 (d := dH_swap_fault) rfl
  have Fswap_fault : Fun K _ _ s_swap_fault _ fdswap_fault := OQ.fun_of Dswap_fault
  have bswap_fault := Fswap_fault.binds (ps := ["joins"]) fun _ _ _ _ _ _ us hl => match us, hl with | [_], _ => rfl
  obtain ⟨fdgrouping_fault, Dgrouping_fault⟩ := c.def_ 13 (d := dH_grouping_fault) rfl
  have Fgrouping_fault : Fun K _ _ s_grouping_fault _ fdgrouping_fault := OQ.fun_of Dgrouping_fault
  have bgrouping_fault := Fgrouping_fault.binds (ps := ["word", "table"]) fun _ _ _ _ _ _ us hl => match us, hl with | [_, _], _ => rfl
  obtain ⟨fdover_fault, Dover_fault⟩ := c.def_ 14 (d := dH_over_fault) rfl
  have Fover_fault : Fun K _ _ s_over_fault _ fdover_fault := OQ.fun_of Dover_fault
  have bover_fault := Fover_fault.binds (ps := ["joins", "products"]) fun _ _ _ _ _ _ us hl => match us, hl with | [_, _], _ => rfl
  obtain ⟨fdsame_fault, Dsame_fault⟩ := c.def_ 15 (d := dH_same_fault) rfl
  have Fsame_fault : Fun K _ _ s_same_fault _ fdsame_fault := OQ.fun_of Dsame_fault
  have bsame_fault := Fsame_fault.binds (ps := ["none", "one"]) fun _ _ _ _ _ _ us hl => match us, hl with | [_, _], _ => rfl
  obtain ⟨fdReckoning__init, DReckoning__init⟩ := c.def_ 16 (d := dH_Reckoning__init) rfl
  have FReckoning__init : Fun K _ _ s_Reckoning__init _ fdReckoning__init := OQ.fun_of DReckoning__init
  have bReckoning__init := FReckoning__init.binds (ps := ["self", "joins", "products", "none", "one"]) fun _ _ _ _ _ _ us hl => match us, hl with | [_, _, _, _, _], _ => rfl
  obtain ⟨fdReckoning__eq, DReckoning__eq⟩ := c.def_ 17 (d := dH_Reckoning__eq) rfl
  have FReckoning__eq : Fun K _ _ s_Reckoning__eq _ fdReckoning__eq := OQ.fun_of DReckoning__eq
  have bReckoning__eq := FReckoning__eq.binds (ps := ["self", "other"]) fun _ _ _ _ _ _ us hl => match us, hl with | [_, _], _ => rfl
  obtain ⟨fdReckoning_Ujoined, DReckoning_Ujoined⟩ := c.def_ 18 (d := dH_Reckoning_Ujoined) rfl
  have FReckoning_Ujoined : Fun K _ _ s_Reckoning_Ujoined _ fdReckoning_Ujoined := OQ.fun_of DReckoning_Ujoined
  have bReckoning_Ujoined := FReckoning_Ujoined.binds (ps := ["self", "worths"]) fun _ _ _ _ _ _ us hl => match us, hl with | [_, _], _ => rfl
  obtain ⟨fdReckoning_Umeet, DReckoning_Umeet⟩ := c.def_ 19 (d := dH_Reckoning_Umeet) rfl
  have FReckoning_Umeet : Fun K _ _ s_Reckoning_Umeet _ fdReckoning_Umeet := OQ.fun_of DReckoning_Umeet
  have bReckoning_Umeet := FReckoning_Umeet.binds (ps := ["self", "a", "b"]) fun _ _ _ _ _ _ us hl => match us, hl with | [_, _, _], _ => rfl
  obtain ⟨fdReckoning_Uleft, DReckoning_Uleft⟩ := c.def_ 20 (d := dH_Reckoning_Uleft) rfl
  have FReckoning_Uleft : Fun K _ _ s_Reckoning_Uleft _ fdReckoning_Uleft := OQ.fun_of DReckoning_Uleft
  have bReckoning_Uleft := FReckoning_Uleft.binds (ps := ["self", "a", "c"]) fun _ _ _ _ _ _ us hl => match us, hl with | [_, _, _], _ => rfl
  obtain ⟨fdReckoning_Uright, DReckoning_Uright⟩ := c.def_ 21 (d := dH_Reckoning_Uright) rfl
  have FReckoning_Uright : Fun K _ _ s_Reckoning_Uright _ fdReckoning_Uright := OQ.fun_of DReckoning_Uright
  have bReckoning_Uright := FReckoning_Uright.binds (ps := ["self", "c", "a"]) fun _ _ _ _ _ _ us hl => match us, hl with | [_, _, _], _ => rfl
  obtain ⟨fdcheck_told, Dcheck_told⟩ := c.def_ 22 (d := dH_check_told) rfl
  have Fcheck_told : Fun K _ _ s_check_told _ fdcheck_told := OQ.fun_of Dcheck_told
  have bcheck_told := Fcheck_told.binds (ps := ["reckoning"]) fun _ _ _ _ _ _ us hl => match us, hl with | [_], _ => rfl
  obtain ⟨fdturned, Dturned⟩ := c.def_ 23 (d := dH_turned) rfl
  have Fturned : Fun K _ _ s_turned _ fdturned := OQ.fun_of Dturned
  have bturned := Fturned.binds (ps := ["reckoning"]) fun _ _ _ _ _ _ us hl => match us, hl with | [_], _ => rfl
  obtain ⟨fdbeside, Dbeside⟩ := c.def_ 24 (d := dH_beside) rfl
  have Fbeside : Fun K _ _ s_beside _ fdbeside := OQ.fun_of Dbeside
  have bbeside := Fbeside.binds (ps := ["one", "other"]) fun _ _ _ _ _ _ us hl => match us, hl with | [_, _], _ => rfl
  obtain ⟨fdside_by_side, Dside_by_side⟩ := c.def_ 25 (d := dH_side_by_side) rfl
  have Fside_by_side : Fun K _ _ s_side_by_side _ fdside_by_side := OQ.fun_of Dside_by_side
  have bside_by_side := Fside_by_side.binds (ps := ["one", "other"]) fun _ _ _ _ _ _ us hl => match us, hl with | [_, _], _ => rfl
  obtain ⟨fdLengths__init, DLengths__init⟩ := c.def_ 26 (d := dH_Lengths__init) rfl
  have FLengths__init : Fun K _ _ s_Lengths__init _ fdLengths__init := OQ.fun_of DLengths__init
  have bLengths__init := FLengths__init.binds (ps := ["self"]) fun _ _ _ _ _ _ us hl => match us, hl with | [_], _ => rfl
  obtain ⟨fdLengths__eq, DLengths__eq⟩ := c.def_ 27 (d := dH_Lengths__eq) rfl
  have FLengths__eq : Fun K _ _ s_Lengths__eq _ fdLengths__eq := OQ.fun_of DLengths__eq
  have bLengths__eq := FLengths__eq.binds (ps := ["self", "other"]) fun _ _ _ _ _ _ us hl => match us, hl with | [_, _], _ => rfl
  obtain ⟨fdRatio__init, DRatio__init⟩ := c.def_ 28 (d := dH_Ratio__init) rfl
  have FRatio__init : FunD K _ _ (defArgs s_Ratio__init) (defBody s_Ratio__init) (defScope s_Ratio__init) [V.int 1] [] _ fdRatio__init := DRatio__init
  have b1Ratio__init := FRatio__init.binds1 (ps := ["self", "top", "bottom"]) 2 0 (by simp) rfl (fun _ _ _ _ _ _ _ us its hl hi => match us, hl, its, hi with | [_, _], _, [_], _ => ⟨_, rfl, rfl⟩)
  have bRatio__init : Binds K fdRatio__init ["self", "top", "bottom"] [] := by
    obtain ⟨ds, hv, hb⟩ := FRatio__init.binds1 (ps := ["self", "top", "bottom"]) 3 1 (by simp) rfl (fun _ _ _ _ _ _ _ us its hl hi => match us, hl, its, hi with | [_, _, _], _, [_], _ => ⟨_, rfl, rfl⟩)
    cases hv; exact hb
  obtain ⟨fdis_number, Dis_number⟩ := c.def_ 29 (d := dH_is_number) rfl
  have Fis_number : Fun K _ _ s_is_number _ fdis_number := OQ.fun_of Dis_number
  have bis_number := Fis_number.binds (ps := ["thing"]) fun _ _ _ _ _ _ us hl => match us, hl with | [_], _ => rfl
  obtain ⟨fdNumbers__init, DNumbers__init⟩ := c.def_ 30 (d := dH_Numbers__init) rfl
  have FNumbers__init : Fun K _ _ s_Numbers__init _ fdNumbers__init := OQ.fun_of DNumbers__init
  have bNumbers__init := FNumbers__init.binds (ps := ["self"]) fun _ _ _ _ _ _ us hl => match us, hl with | [_], _ => rfl
  obtain ⟨fdNumbers__eq, DNumbers__eq⟩ := c.def_ 31 (d := dH_Numbers__eq) rfl
  have FNumbers__eq : Fun K _ _ s_Numbers__eq _ fdNumbers__eq := OQ.fun_of DNumbers__eq
  have bNumbers__eq := FNumbers__eq.binds (ps := ["self", "other"]) fun _ _ _ _ _ _ us hl => match us, hl with | [_, _], _ => rfl
  obtain ⟨fdlaw_hand, Dlaw_hand⟩ := c.def_ 32 (d := dH_law_hand) rfl
  have Flaw_hand : Fun K _ _ s_law_hand _ fdlaw_hand := OQ.fun_of Dlaw_hand
  have blaw_hand := Flaw_hand.binds (ps := ["script"]) fun _ _ _ _ _ _ us hl => match us, hl with | [_], _ => rfl
  obtain ⟨fdlaw_draw, Dlaw_draw⟩ := c.def_ 33 (d := dH_law_draw) rfl
  have Flaw_draw : Fun K _ _ s_law_draw _ fdlaw_draw := OQ.fun_of Dlaw_draw
  have blaw_draw := Flaw_draw.binds (ps := ["hand", "many"]) fun _ _ _ _ _ _ us hl => match us, hl with | [_, _], _ => rfl
  obtain ⟨fdlaw_chain, Dlaw_chain⟩ := c.def_ 34 (d := dH_law_chain) rfl
  have Flaw_chain : Fun K _ _ s_law_chain _ fdlaw_chain := OQ.fun_of Dlaw_chain
  have blaw_chain := Flaw_chain.binds (ps := ["products"]) fun _ _ _ _ _ _ us hl => match us, hl with | [_], _ => rfl
  obtain ⟨fdlaw_products, Dlaw_products⟩ := c.def_ 35 (d := dH_law_products) rfl
  have Flaw_products : Fun K _ _ s_law_products _ fdlaw_products := OQ.fun_of Dlaw_products
  have blaw_products := Flaw_products.binds (ps := ["hand"]) fun _ _ _ _ _ _ us hl => match us, hl with | [_], _ => rfl
  obtain ⟨fdlaw_monoid, Dlaw_monoid⟩ := c.def_ 36 (d := dH_law_monoid) rfl
  have Flaw_monoid : Fun K _ _ s_law_monoid _ fdlaw_monoid := OQ.fun_of Dlaw_monoid
  have blaw_monoid := Flaw_monoid.binds (ps := ["hand"]) fun _ _ _ _ _ _ us hl => match us, hl with | [_], _ => rfl
  obtain ⟨fdlaw_lot, Dlaw_lot⟩ := c.def_ 37 (d := dH_law_lot) rfl
  have Flaw_lot : Fun K _ _ s_law_lot _ fdlaw_lot := OQ.fun_of Dlaw_lot
  have blaw_lot := Flaw_lot.binds (ps := ["products", "one", "other"]) fun _ _ _ _ _ _ us hl => match us, hl with | [_, _, _], _ => rfl
  obtain ⟨fdlaw_lots, Dlaw_lots⟩ := c.def_ 38 (d := dH_law_lots) rfl
  have Flaw_lots : Fun K _ _ s_law_lots _ fdlaw_lots := OQ.fun_of Dlaw_lots
  have blaw_lots := Flaw_lots.binds (ps := ["products", "one"]) fun _ _ _ _ _ _ us hl => match us, hl with | [_, _], _ => rfl
  obtain ⟨fdlaw_paired, Dlaw_paired⟩ := c.def_ 39 (d := dH_law_paired) rfl
  have Flaw_paired : Fun K _ _ s_law_paired _ fdlaw_paired := OQ.fun_of Dlaw_paired
  have blaw_paired := Flaw_paired.binds (ps := ["one", "other"]) fun _ _ _ _ _ _ us hl => match us, hl with | [_, _], _ => rfl
  obtain ⟨fdlaw_beside, Dlaw_beside⟩ := c.def_ 40 (d := dH_law_beside) rfl
  have Flaw_beside : Fun K _ _ s_law_beside _ fdlaw_beside := OQ.fun_of Dlaw_beside
  have blaw_beside := Flaw_beside.binds (ps := ["one", "other"]) fun _ _ _ _ _ _ us hl => match us, hl with | [_, _], _ => rfl
  obtain ⟨fdlaw_turned, Dlaw_turned⟩ := c.def_ 41 (d := dH_law_turned) rfl
  have Flaw_turned : Fun K _ _ s_law_turned _ fdlaw_turned := OQ.fun_of Dlaw_turned
  have blaw_turned := Flaw_turned.binds (ps := ["told"]) fun _ _ _ _ _ _ us hl => match us, hl with | [_], _ => rfl
  obtain ⟨fdlaw_order, Dlaw_order⟩ := c.def_ 42 (d := dH_law_order) rfl
  have Flaw_order : Fun K _ _ s_law_order _ fdlaw_order := OQ.fun_of Dlaw_order
  have blaw_order := Flaw_order.binds (ps := ["hand", "many"]) fun _ _ _ _ _ _ us hl => match us, hl with | [_, _], _ => rfl
  obtain ⟨fdlaw_renamed, Dlaw_renamed⟩ := c.def_ 43 (d := dH_law_renamed) rfl
  have Flaw_renamed : Fun K _ _ s_law_renamed _ fdlaw_renamed := OQ.fun_of Dlaw_renamed
  have blaw_renamed := Flaw_renamed.binds (ps := ["told", "order"]) fun _ _ _ _ _ _ us hl => match us, hl with | [_, _], _ => rfl
  obtain ⟨fdlaw_made, Dlaw_made⟩ := c.def_ 44 (d := dH_law_made) rfl
  have Flaw_made : Fun K _ _ s_law_made _ fdlaw_made := OQ.fun_of Dlaw_made
  have blaw_made := Flaw_made.binds (ps := ["hand"]) fun _ _ _ _ _ _ us hl => match us, hl with | [_], _ => rfl
  obtain ⟨fdlaw_rows, Dlaw_rows⟩ := c.def_ 45 (d := dH_law_rows) rfl
  have Flaw_rows : Fun K _ _ s_law_rows _ fdlaw_rows := OQ.fun_of Dlaw_rows
  have blaw_rows := Flaw_rows.binds (ps := ["rows"]) fun _ _ _ _ _ _ us hl => match us, hl with | [_], _ => rfl
  obtain ⟨fdlaw_is_told, Dlaw_is_told⟩ := c.def_ 46 (d := dH_law_is_told) rfl
  have Flaw_is_told : Fun K _ _ s_law_is_told _ fdlaw_is_told := OQ.fun_of Dlaw_is_told
  have blaw_is_told := Flaw_is_told.binds (ps := ["reckoning", "told"]) fun _ _ _ _ _ _ us hl => match us, hl with | [_, _], _ => rfl
  obtain ⟨fdlaw_small, Dlaw_small⟩ := c.def_ 47 (d := dH_law_small) rfl
  have Flaw_small : Fun K _ _ s_law_small _ fdlaw_small := OQ.fun_of Dlaw_small
  have blaw_small := Flaw_small.binds (ps := ["hand"]) fun _ _ _ _ _ _ us hl => match us, hl with | [_], _ => rfl
  obtain ⟨fdlaw_asked, Dlaw_asked⟩ := c.def_ 48 (d := dH_law_asked) rfl
  have Flaw_asked : Fun K _ _ s_law_asked _ fdlaw_asked := OQ.fun_of Dlaw_asked
  have blaw_asked := Flaw_asked.binds (ps := ["kind", "one", "other"]) fun _ _ _ _ _ _ us hl => match us, hl with | [_, _, _], _ => rfl
  obtain ⟨fdlaw_kept, Dlaw_kept⟩ := c.def_ 49 (d := dH_law_kept) rfl
  have Flaw_kept : Fun K _ _ s_law_kept _ fdlaw_kept := OQ.fun_of Dlaw_kept
  have blaw_kept := Flaw_kept.binds (ps := ["told"]) fun _ _ _ _ _ _ us hl => match us, hl with | [_], _ => rfl
  obtain ⟨fdlaw, Dlaw⟩ := c.def_ 50 (d := dH_law) rfl
  have Flaw : Fun K _ _ s_law _ fdlaw := OQ.fun_of Dlaw
  have blaw := Flaw.binds (ps := ["script"]) fun _ _ _ _ _ _ us hl => match us, hl with | [_], _ => rfl
  have gWayError : mg "WayError" = some (.ref (He.ga K "WayError")) := He.glo_ok X G (c.fact 0 rfl)
  have gBadReckoning : mg "BadReckoning" = some (.ref (He.ga K "BadReckoning")) := He.glo_ok X G (c.fact 1 rfl)
  have gBadWorth : mg "BadWorth" = some (.ref (He.ga K "BadWorth")) := He.glo_ok X G (c.fact 2 rfl)
  have gBadNumber : mg "BadNumber" = some (.ref (He.ga K "BadNumber")) := He.glo_ok X G (c.fact 3 rfl)
  have gTooMany : mg "TooMany" = some (.ref (He.ga K "TooMany")) := He.glo_ok X G (c.fact 4 rfl)
  have gReckoning : mg "Reckoning" = some (.ref (He.ga K "Reckoning")) := He.glo_ok X G (c.fact 5 rfl)
  have gLengths : mg "Lengths" = some (.ref (He.ga K "Lengths")) := He.glo_ok X G (c.fact 6 rfl)
  have gRatio : mg "Ratio" = some (.ref (He.ga K "Ratio")) := He.glo_ok X G (c.fact 7 rfl)
  have gNumbers : mg "Numbers" = some (.ref (He.ga K "Numbers")) := He.glo_ok X G (c.fact 8 rfl)
  have gis_integer : mg "is_integer" = some (.ref (He.ga K "is_integer")) := He.glo_ok X G (c.fact 9 rfl)
  have gis_row : mg "is_row" = some (.ref (He.ga K "is_row")) := He.glo_ok X G (c.fact 10 rfl)
  have gfirst_fault : mg "first_fault" = some (.ref (He.ga K "first_fault")) := He.glo_ok X G (c.fact 11 rfl)
  have gsize_fault : mg "size_fault" = some (.ref (He.ga K "size_fault")) := He.glo_ok X G (c.fact 12 rfl)
  have gis_square : mg "is_square" = some (.ref (He.ga K "is_square")) := He.glo_ok X G (c.fact 13 rfl)
  have gis_side : mg "is_side" = some (.ref (He.ga K "is_side")) := He.glo_ok X G (c.fact 14 rfl)
  have gis_below : mg "is_below" = some (.ref (He.ga K "is_below")) := He.glo_ok X G (c.fact 15 rfl)
  have gnone_fault : mg "none_fault" = some (.ref (He.ga K "none_fault")) := He.glo_ok X G (c.fact 16 rfl)
  have gone_fault : mg "one_fault" = some (.ref (He.ga K "one_fault")) := He.glo_ok X G (c.fact 17 rfl)
  have gidle_fault : mg "idle_fault" = some (.ref (He.ga K "idle_fault")) := He.glo_ok X G (c.fact 18 rfl)
  have gswap_fault : mg "swap_fault" = some (.ref (He.ga K "swap_fault")) := He.glo_ok X G (c.fact 19 rfl)
  have ggrouping_fault : mg "grouping_fault" = some (.ref (He.ga K "grouping_fault")) := He.glo_ok X G (c.fact 20 rfl)
  have gover_fault : mg "over_fault" = some (.ref (He.ga K "over_fault")) := He.glo_ok X G (c.fact 21 rfl)
  have gsame_fault : mg "same_fault" = some (.ref (He.ga K "same_fault")) := He.glo_ok X G (c.fact 22 rfl)
  have gcheck_told : mg "check_told" = some (.ref (He.ga K "check_told")) := He.glo_ok X G (c.fact 23 rfl)
  have gturned : mg "turned" = some (.ref (He.ga K "turned")) := He.glo_ok X G (c.fact 24 rfl)
  have gbeside : mg "beside" = some (.ref (He.ga K "beside")) := He.glo_ok X G (c.fact 25 rfl)
  have gside_by_side : mg "side_by_side" = some (.ref (He.ga K "side_by_side")) := He.glo_ok X G (c.fact 26 rfl)
  have gis_number : mg "is_number" = some (.ref (He.ga K "is_number")) := He.glo_ok X G (c.fact 27 rfl)
  have g_law_hand : mg "_law_hand" = some (.ref (He.ga K "_law_hand")) := He.glo_ok X G (c.fact 28 rfl)
  have g_law_draw : mg "_law_draw" = some (.ref (He.ga K "_law_draw")) := He.glo_ok X G (c.fact 29 rfl)
  have g_law_chain : mg "_law_chain" = some (.ref (He.ga K "_law_chain")) := He.glo_ok X G (c.fact 30 rfl)
  have g_law_products : mg "_law_products" = some (.ref (He.ga K "_law_products")) := He.glo_ok X G (c.fact 31 rfl)
  have g_law_monoid : mg "_law_monoid" = some (.ref (He.ga K "_law_monoid")) := He.glo_ok X G (c.fact 32 rfl)
  have g_law_lot : mg "_law_lot" = some (.ref (He.ga K "_law_lot")) := He.glo_ok X G (c.fact 33 rfl)
  have g_law_lots : mg "_law_lots" = some (.ref (He.ga K "_law_lots")) := He.glo_ok X G (c.fact 34 rfl)
  have g_law_paired : mg "_law_paired" = some (.ref (He.ga K "_law_paired")) := He.glo_ok X G (c.fact 35 rfl)
  have g_law_beside : mg "_law_beside" = some (.ref (He.ga K "_law_beside")) := He.glo_ok X G (c.fact 36 rfl)
  have g_law_turned : mg "_law_turned" = some (.ref (He.ga K "_law_turned")) := He.glo_ok X G (c.fact 37 rfl)
  have g_law_order : mg "_law_order" = some (.ref (He.ga K "_law_order")) := He.glo_ok X G (c.fact 38 rfl)
  have g_law_renamed : mg "_law_renamed" = some (.ref (He.ga K "_law_renamed")) := He.glo_ok X G (c.fact 39 rfl)
  have g_law_made : mg "_law_made" = some (.ref (He.ga K "_law_made")) := He.glo_ok X G (c.fact 40 rfl)
  have g_law_rows : mg "_law_rows" = some (.ref (He.ga K "_law_rows")) := He.glo_ok X G (c.fact 41 rfl)
  have g_law_is_told : mg "_law_is_told" = some (.ref (He.ga K "_law_is_told")) := He.glo_ok X G (c.fact 42 rfl)
  have g_law_small : mg "_law_small" = some (.ref (He.ga K "_law_small")) := He.glo_ok X G (c.fact 43 rfl)
  have g_law_asked : mg "_law_asked" = some (.ref (He.ga K "_law_asked")) := He.glo_ok X G (c.fact 44 rfl)
  have g_law_kept : mg "_law_kept" = some (.ref (He.ga K "_law_kept")) := He.glo_ok X G (c.fact 45 rfl)
  have glaw : mg "law" = some (.ref (He.ga K "law")) := He.glo_ok X G (c.fact 46 rfl)
  have zabs : mg "abs" = none := He.free_ok X G (c.fact 47 rfl)
  have zall : mg "all" = none := He.free_ok X G (c.fact 48 rfl)
  have zbool : mg "bool" = none := He.free_ok X G (c.fact 49 rfl)
  have zint : mg "int" = none := He.free_ok X G (c.fact 50 rfl)
  have zisinstance : mg "isinstance" = none := He.free_ok X G (c.fact 51 rfl)
  have zlen : mg "len" = none := He.free_ok X G (c.fact 52 rfl)
  have zlist : mg "list" = none := He.free_ok X G (c.fact 53 rfl)
  have zmax : mg "max" = none := He.free_ok X G (c.fact 54 rfl)
  have zmin : mg "min" = none := He.free_ok X G (c.fact 55 rfl)
  have zrange : mg "range" = none := He.free_ok X G (c.fact 56 rfl)
  have ztuple : mg "tuple" = none := He.free_ok X G (c.fact 57 rfl)
  have zzip : mg "zip" = none := He.free_ok X G (c.fact 58 rfl)
  obtain ⟨tkFEWEST_WORTHS, gFEWEST_WORTHS⟩ := He.int_ok X G (c.fact 59 (f := .int "FEWEST_WORTHS" 2) rfl)
  obtain ⟨tkMOST_WORTHS, gMOST_WORTHS⟩ := He.int_ok X G (c.fact 60 (f := .int "MOST_WORTHS" 16) rfl)
  have r0 := x
  obtain ⟨qhnO, r1⟩ := OQ.two r0
  obtain ⟨qhtO, r2⟩ := OQ.two r1
  obtain ⟨qhaReckoning, r3⟩ := OQ.two r2
  obtain ⟨qhmReckoning, r4⟩ := OQ.two r3
  obtain ⟨qhaLengths, r5⟩ := OQ.two r4
  obtain ⟨qhmLengths, r6⟩ := OQ.two r5
  obtain ⟨qhaRatio, r7⟩ := OQ.two r6
  obtain ⟨qhmRatio, r8⟩ := OQ.two r7
  obtain ⟨qhaNumbers, r9⟩ := OQ.two r8
  obtain ⟨qhmNumbers, r10⟩ := OQ.two r9
  obtain ⟨qtI, r11⟩ := OQ.two r10
  obtain ⟨qkintRe, r12⟩ := OQ.two r11
  obtain ⟨qkboolRe, r13⟩ := OQ.two r12
  obtain ⟨qicWE, r14⟩ := OQ.two r13
  obtain ⟨qtyWE, r15⟩ := OQ.two r14
  obtain ⟨qexWE, r16⟩ := OQ.two r15
  obtain ⟨qneRe, r17⟩ := OQ.two r16
  obtain ⟨qeBadReckoning, r18⟩ := OQ.two r17
  obtain ⟨qeBadWorth, r19⟩ := OQ.two r18
  obtain ⟨qeBadNumber, r20⟩ := OQ.two r19
  obtain ⟨qeTooMany, r21⟩ := OQ.two r20
  obtain ⟨qtI2, r22⟩ := OQ.two r21
  obtain ⟨qrdWE, r23⟩ := OQ.two r22
  obtain ⟨qgaWE, r24⟩ := OQ.two r23
  obtain ⟨qvaWE, r25⟩ := OQ.two r24
  obtain ⟨qxTB, r26⟩ := OQ.two r25
  obtain ⟨qkTRe, r27⟩ := OQ.two r26
  obtain ⟨qkPLR, r28⟩ := OQ.two r27
  obtain ⟨qkPNR, r29⟩ := OQ.two r28
  obtain ⟨qneLe, r30⟩ := OQ.two r29
  obtain ⟨qkSLe, r31⟩ := OQ.two r30
  obtain ⟨qkBLe, r32⟩ := OQ.two r31
  obtain ⟨qneNu, r33⟩ := OQ.two r32
  obtain ⟨qkSNu, r34⟩ := OQ.two r33
  obtain ⟨qkBNu, r35⟩ := OQ.two r34
  have qgcd := r35
  have hnO := OQ.isB_ok qhnO
  have htO := of_decide_eq_true qhtO
  have eBadReckoning := OQ.erB_ok hnO htO qeBadReckoning
  have eBadWorth := OQ.erB_ok hnO htO qeBadWorth
  have eBadNumber := OQ.erB_ok hnO htO qeBadNumber
  have eTooMany := OQ.erB_ok hnO htO qeTooMany
  have e := hfa.symm.trans glaw
  cases e
  let T : Top K mg := { C_Reckoning := _, cl_Reckoning := He.cls_ok (c.fact 61 (f := .cls "Reckoning") rfl), g_Reckoning := gReckoning, na_Reckoning_joins := He.noat_ok (c.fact 65 (f := .noat "Reckoning" "joins") rfl), na_Reckoning_products := He.noat_ok (c.fact 66 (f := .noat "Reckoning" "products") rfl), na_Reckoning_none := He.noat_ok (c.fact 67 (f := .noat "Reckoning" "none") rfl), na_Reckoning_one := He.noat_ok (c.fact 68 (f := .noat "Reckoning" "one") rfl), na_Reckoning__meets := He.noat_ok (c.fact 69 (f := .noat "Reckoning" "_meets") rfl), na_Reckoning__lefts := He.noat_ok (c.fact 70 (f := .noat "Reckoning" "_lefts") rfl), na_Reckoning__rights := He.noat_ok (c.fact 71 (f := .noat "Reckoning" "_rights") rfl), C_Lengths := _, cl_Lengths := He.cls_ok (c.fact 62 (f := .cls "Lengths") rfl), g_Lengths := gLengths, na_Lengths_none := He.noat_ok (c.fact 72 (f := .noat "Lengths" "none") rfl), na_Lengths_one := He.noat_ok (c.fact 73 (f := .noat "Lengths" "one") rfl), C_Ratio := _, cl_Ratio := He.cls_ok (c.fact 63 (f := .cls "Ratio") rfl), g_Ratio := gRatio, na_Ratio_top := He.noat_ok (c.fact 74 (f := .noat "Ratio" "top") rfl), na_Ratio_bottom := He.noat_ok (c.fact 75 (f := .noat "Ratio" "bottom") rfl), C_Numbers := _, cl_Numbers := He.cls_ok (c.fact 64 (f := .cls "Numbers") rfl), g_Numbers := gNumbers, na_Numbers_none := He.noat_ok (c.fact 76 (f := .noat "Numbers" "none") rfl), na_Numbers_one := He.noat_ok (c.fact 77 (f := .noat "Numbers" "one") rfl), f_WayError__init := _, fd_WayError__init := fdWayError__init, F_WayError__init := FWayError__init, b_WayError__init := bWayError__init, f_TooMany__init := _, fd_TooMany__init := fdTooMany__init, F_TooMany__init := FTooMany__init, b_TooMany__init := bTooMany__init, f_is_integer := _, fd_is_integer := fdis_integer, F_is_integer := Fis_integer, b_is_integer := bis_integer, g_is_integer := gis_integer, f_is_row := _, fd_is_row := fdis_row, F_is_row := Fis_row, b_is_row := bis_row, g_is_row := gis_row, f_first_fault := _, fd_first_fault := fdfirst_fault, F_first_fault := Ffirst_fault, b_first_fault := bfirst_fault, g_first_fault := gfirst_fault, f_size_fault := _, fd_size_fault := fdsize_fault, F_size_fault := Fsize_fault, b_size_fault := bsize_fault, g_size_fault := gsize_fault, f_is_square := _, fd_is_square := fdis_square, F_is_square := Fis_square, b_is_square := bis_square, g_is_square := gis_square, f_is_side := _, fd_is_side := fdis_side, F_is_side := Fis_side, b_is_side := bis_side, g_is_side := gis_side, f_is_below := _, fd_is_below := fdis_below, F_is_below := Fis_below, b_is_below := bis_below, g_is_below := gis_below, f_none_fault := _, fd_none_fault := fdnone_fault, F_none_fault := Fnone_fault, b_none_fault := bnone_fault, g_none_fault := gnone_fault, f_one_fault := _, fd_one_fault := fdone_fault, F_one_fault := Fone_fault, b_one_fault := bone_fault, g_one_fault := gone_fault, f_idle_fault := _, fd_idle_fault := fdidle_fault, F_idle_fault := Fidle_fault, b_idle_fault := bidle_fault, g_idle_fault := gidle_fault, f_swap_fault := _, fd_swap_fault := fdswap_fault, F_swap_fault := Fswap_fault, b_swap_fault := bswap_fault, g_swap_fault := gswap_fault, f_grouping_fault := _, fd_grouping_fault := fdgrouping_fault, F_grouping_fault := Fgrouping_fault, b_grouping_fault := bgrouping_fault, g_grouping_fault := ggrouping_fault, f_over_fault := _, fd_over_fault := fdover_fault, F_over_fault := Fover_fault, b_over_fault := bover_fault, g_over_fault := gover_fault, f_same_fault := _, fd_same_fault := fdsame_fault, F_same_fault := Fsame_fault, b_same_fault := bsame_fault, g_same_fault := gsame_fault, f_Reckoning__init := _, fd_Reckoning__init := fdReckoning__init, F_Reckoning__init := FReckoning__init, b_Reckoning__init := bReckoning__init, M_Reckoning := He.mkr_ok (c.fact 85 (f := .mkr "Reckoning") rfl), f_Reckoning__eq := _, fd_Reckoning__eq := fdReckoning__eq, F_Reckoning__eq := FReckoning__eq, b_Reckoning__eq := bReckoning__eq, m_Reckoning__eq := He.meth_ok (c.fact 78 (f := .meth "Reckoning" "__eq__") rfl), f_Reckoning_Ujoined := _, fd_Reckoning_Ujoined := fdReckoning_Ujoined, F_Reckoning_Ujoined := FReckoning_Ujoined, b_Reckoning_Ujoined := bReckoning_Ujoined, m_Reckoning_Ujoined := He.meth_ok (c.fact 79 (f := .meth "Reckoning" "_joined") rfl), f_Reckoning_Umeet := _, fd_Reckoning_Umeet := fdReckoning_Umeet, F_Reckoning_Umeet := FReckoning_Umeet, b_Reckoning_Umeet := bReckoning_Umeet, m_Reckoning_Umeet := He.meth_ok (c.fact 80 (f := .meth "Reckoning" "_meet") rfl), f_Reckoning_Uleft := _, fd_Reckoning_Uleft := fdReckoning_Uleft, F_Reckoning_Uleft := FReckoning_Uleft, b_Reckoning_Uleft := bReckoning_Uleft, m_Reckoning_Uleft := He.meth_ok (c.fact 81 (f := .meth "Reckoning" "_left") rfl), f_Reckoning_Uright := _, fd_Reckoning_Uright := fdReckoning_Uright, F_Reckoning_Uright := FReckoning_Uright, b_Reckoning_Uright := bReckoning_Uright, m_Reckoning_Uright := He.meth_ok (c.fact 82 (f := .meth "Reckoning" "_right") rfl), f_check_told := _, fd_check_told := fdcheck_told, F_check_told := Fcheck_told, b_check_told := bcheck_told, g_check_told := gcheck_told, f_turned := _, fd_turned := fdturned, F_turned := Fturned, b_turned := bturned, g_turned := gturned, f_beside := _, fd_beside := fdbeside, F_beside := Fbeside, b_beside := bbeside, g_beside := gbeside, f_side_by_side := _, fd_side_by_side := fdside_by_side, F_side_by_side := Fside_by_side, b_side_by_side := bside_by_side, g_side_by_side := gside_by_side, f_Lengths__init := _, fd_Lengths__init := fdLengths__init, F_Lengths__init := FLengths__init, b_Lengths__init := bLengths__init, M_Lengths := He.mkr_ok (c.fact 86 (f := .mkr "Lengths") rfl), f_Lengths__eq := _, fd_Lengths__eq := fdLengths__eq, F_Lengths__eq := FLengths__eq, b_Lengths__eq := bLengths__eq, m_Lengths__eq := He.meth_ok (c.fact 83 (f := .meth "Lengths" "__eq__") rfl), f_Ratio__init := _, fd_Ratio__init := fdRatio__init, F_Ratio__init := FRatio__init, b_Ratio__init := bRatio__init, b1_Ratio__init := b1Ratio__init, M_Ratio := He.mkr_ok (c.fact 87 (f := .mkr "Ratio") rfl), f_is_number := _, fd_is_number := fdis_number, F_is_number := Fis_number, b_is_number := bis_number, g_is_number := gis_number, f_Numbers__init := _, fd_Numbers__init := fdNumbers__init, F_Numbers__init := FNumbers__init, b_Numbers__init := bNumbers__init, M_Numbers := He.mkr_ok (c.fact 88 (f := .mkr "Numbers") rfl), f_Numbers__eq := _, fd_Numbers__eq := fdNumbers__eq, F_Numbers__eq := FNumbers__eq, b_Numbers__eq := bNumbers__eq, m_Numbers__eq := He.meth_ok (c.fact 84 (f := .meth "Numbers" "__eq__") rfl), f_law_hand := _, fd_law_hand := fdlaw_hand, F_law_hand := Flaw_hand, b_law_hand := blaw_hand, g_law_hand := g_law_hand, f_law_draw := _, fd_law_draw := fdlaw_draw, F_law_draw := Flaw_draw, b_law_draw := blaw_draw, g_law_draw := g_law_draw, f_law_chain := _, fd_law_chain := fdlaw_chain, F_law_chain := Flaw_chain, b_law_chain := blaw_chain, g_law_chain := g_law_chain, f_law_products := _, fd_law_products := fdlaw_products, F_law_products := Flaw_products, b_law_products := blaw_products, g_law_products := g_law_products, f_law_monoid := _, fd_law_monoid := fdlaw_monoid, F_law_monoid := Flaw_monoid, b_law_monoid := blaw_monoid, g_law_monoid := g_law_monoid, f_law_lot := _, fd_law_lot := fdlaw_lot, F_law_lot := Flaw_lot, b_law_lot := blaw_lot, g_law_lot := g_law_lot, f_law_lots := _, fd_law_lots := fdlaw_lots, F_law_lots := Flaw_lots, b_law_lots := blaw_lots, g_law_lots := g_law_lots, f_law_paired := _, fd_law_paired := fdlaw_paired, F_law_paired := Flaw_paired, b_law_paired := blaw_paired, g_law_paired := g_law_paired, f_law_beside := _, fd_law_beside := fdlaw_beside, F_law_beside := Flaw_beside, b_law_beside := blaw_beside, g_law_beside := g_law_beside, f_law_turned := _, fd_law_turned := fdlaw_turned, F_law_turned := Flaw_turned, b_law_turned := blaw_turned, g_law_turned := g_law_turned, f_law_order := _, fd_law_order := fdlaw_order, F_law_order := Flaw_order, b_law_order := blaw_order, g_law_order := g_law_order, f_law_renamed := _, fd_law_renamed := fdlaw_renamed, F_law_renamed := Flaw_renamed, b_law_renamed := blaw_renamed, g_law_renamed := g_law_renamed, f_law_made := _, fd_law_made := fdlaw_made, F_law_made := Flaw_made, b_law_made := blaw_made, g_law_made := g_law_made, f_law_rows := _, fd_law_rows := fdlaw_rows, F_law_rows := Flaw_rows, b_law_rows := blaw_rows, g_law_rows := g_law_rows, f_law_is_told := _, fd_law_is_told := fdlaw_is_told, F_law_is_told := Flaw_is_told, b_law_is_told := blaw_is_told, g_law_is_told := g_law_is_told, f_law_small := _, fd_law_small := fdlaw_small, F_law_small := Flaw_small, b_law_small := blaw_small, g_law_small := g_law_small, f_law_asked := _, fd_law_asked := fdlaw_asked, F_law_asked := Flaw_asked, b_law_asked := blaw_asked, g_law_asked := g_law_asked, f_law_kept := _, fd_law_kept := fdlaw_kept, F_law_kept := Flaw_kept, b_law_kept := blaw_kept, g_law_kept := g_law_kept, f_law := _, fd_law := fdlaw, F_law := Flaw, b_law := blaw, g_law := glaw, n_abs := zabs, n_all := zall, n_bool := zbool, n_int := zint, n_isinstance := zisinstance, n_len := zlen, n_list := zlist, n_max := zmax, n_min := zmin, n_range := zrange, n_tuple := ztuple, n_zip := zzip, hnO := hnO, htO := htO, k_FEWEST_WORTHS := tkFEWEST_WORTHS, g_FEWEST_WORTHS := gFEWEST_WORTHS, k_MOST_WORTHS := tkMOST_WORTHS, g_MOST_WORTHS := gMOST_WORTHS, ha_Reckoning := OQ.isB_ok qhaReckoning, hm_Reckoning := of_decide_eq_true qhmReckoning, ha_Lengths := OQ.isB_ok qhaLengths, hm_Lengths := of_decide_eq_true qhmLengths, ha_Ratio := OQ.isB_ok qhaRatio, hm_Ratio := of_decide_eq_true qhmRatio, ha_Numbers := OQ.isB_ok qhaNumbers, hm_Numbers := of_decide_eq_true qhmNumbers, kRR := kit_selfR, kE_BadReckoning := kit_selfR, kE_BadWorth := kit_selfR, kE_BadNumber := kit_selfR, kE_TooMany := kit_selfR, tI := of_decide_eq_true qtI, kI_Reckoning := of_decide_eq_true qkintRe, kB_Reckoning := of_decide_eq_true qkboolRe, ne_Reckoning := OQ.isB_ok qneRe, tI_TooMany := of_decide_eq_true qtI2, c_WE := ⟨qrdWE, OQ.isB_ok qgaWE, vaH qvaWE, FWayError__init.kp⟩, x_TB := of_decide_eq_true qxTB, kT_Reckoning := all7 qkTRe, kP_Lengths_Reckoning := of_decide_eq_true qkPLR, kP_Numbers_Reckoning := of_decide_eq_true qkPNR, ne_Lengths := OQ.isB_ok qneLe, kS_Lengths := of_decide_eq_true qkSLe, kB_Lengths := of_decide_eq_true qkBLe, ne_Numbers := OQ.isB_ok qneNu, kS_Numbers := of_decide_eq_true qkSNu, kB_Numbers := of_decide_eq_true qkBNu, g_gcd := PySem.W.mg_of X G (OQ.isB_ok qgcd), C_WayError := _, g_WayError := gWayError, nfR := nf_self, C_BadReckoning := _, g_BadReckoning := gBadReckoning, oex_BadReckoning := eBadReckoning.oex, i_BadReckoning := eBadReckoning.ini, v_BadReckoning := eBadReckoning.va, xf_BadReckoning := eBadReckoning.xf, exI_BadReckoning := eBadReckoning.exi, exm_BadReckoning := OQ.exm_is eBadReckoning.oex.exC eBadReckoning.cls eBadReckoning.oex.tyC (OQ.mro_has eBadReckoning (by simp)), C_BadWorth := _, g_BadWorth := gBadWorth, oex_BadWorth := eBadWorth.oex, i_BadWorth := eBadWorth.ini, v_BadWorth := eBadWorth.va, xf_BadWorth := eBadWorth.xf, exI_BadWorth := eBadWorth.exi, exm_BadWorth := OQ.exm_is eBadWorth.oex.exC eBadWorth.cls eBadWorth.oex.tyC (OQ.mro_has eBadWorth (by simp)), C_BadNumber := _, g_BadNumber := gBadNumber, oex_BadNumber := eBadNumber.oex, i_BadNumber := eBadNumber.ini, v_BadNumber := eBadNumber.va, xf_BadNumber := eBadNumber.xf, exI_BadNumber := eBadNumber.exi, exm_BadNumber := OQ.exm_is eBadNumber.oex.exC eBadNumber.cls eBadNumber.oex.tyC (OQ.mro_has eBadNumber (by simp)), C_TooMany := _, g_TooMany := gTooMany, oex_TooMany := eTooMany.oex, i_TooMany := eTooMany.ini, v_TooMany := eTooMany.va, xf_TooMany := eTooMany.xf, exI_TooMany := eTooMany.exi, exm_TooMany := OQ.exm_is eTooMany.oex.exC eTooMany.cls eTooMany.oex.tyC (OQ.mro_has eTooMany (by simp)), exW_BadReckoning := OQ.exm_eW eBadReckoning (of_decide_eq_true qexWE) qicWE (of_decide_eq_true qtyWE), exW_BadWorth := OQ.exm_eW eBadWorth (of_decide_eq_true qexWE) qicWE (of_decide_eq_true qtyWE), exW_BadNumber := OQ.exm_eW eBadNumber (of_decide_eq_true qexWE) qicWE (of_decide_eq_true qtyWE), exW_TooMany := OQ.exm_eW eTooMany (of_decide_eq_true qexWE) qicWE (of_decide_eq_true qtyWE), nf_Lengths := nf_self, nf_Numbers := nf_self }
  exact ⟨fdlaw, fun s v => FunD.bindsA (ps := ["script"]) Dlaw (fun _ _ _ _ _ _ us hl => match us, hl with | [_], _ => rfl) s [v] rfl, fun base _ _ => ok_law T⟩

end Toy
open PySem PySem.W PySem.Calls PyProof.Rows
set_option maxRecDepth 100000 in
set_option maxHeartbeats 0 in
theorem PySem.Challenge.cw_watchedways_k33_turned_and_beside_holds : PySem.Challenge.rw_watchedways_k33_turned_and_beside.Holds := by
  w_on; o_law
  refine HG.head_run (r := OpenLaw.row PySem.Challenge.rw_watchedways_k33_turned_and_beside) (q := view (OpenLaw.row PySem.Challenge.rw_watchedways_k33_turned_and_beside).prog [0, 65]) (H := Toy.hk) (ob := Toy.ob) (N := 30000) (M := Toy.HX.MT) (x0 := fun w => Toy.HX.X0 w Toy.HX.os0) (x1 := fun w => Toy.HX.X4 w Toy.HX.os0) (loose := Toy.looseH) (d := HandSHeadRun.topDef (OpenLaw.row PySem.Challenge.rw_watchedways_k33_turned_and_beside).prog 65) (kwd := []) (OQ.obB_eq 5 Toy.faH Toy.fnH Toy.exH)
    Toy.HX.boot Toy.HX.size Toy.HX.run (by kernel_rfl) Toy.HX.looks Toy.HX.seen_ Toy.HX.obs_ (by kernel_rfl) (by kernel_rfl) (by kernel_rfl) (by rfl) (by first | assumption | decide +kernel) (by decide +kernel) ⟨rfl, rfl, rfl, rfl, rfl, by decide +kernel⟩ ?hw ?hc
  case hw => w_witness2
  case hc =>
    refine L2.walk_ofE (l := PySem.Challenge.rw_watchedways_k33_turned_and_beside) (n := 63) (k := 18) (x := "script") (CX := L2.CX0) rfl (by decide) (by kernel_rfl) ⟨rfl, by decide, by decide⟩ ?F (fun _ _ _ _ z => z)
    intro w mg fa h Y G hmg0
    obtain ⟨K, KX, c, x⟩ := Y
    have hmg : mg ("law" : PySem.Str) = some (.ref fa) := by
      have e : (HandSHeadRun.topDef (OpenLaw.row PySem.Challenge.rw_watchedways_k33_turned_and_beside).prog 65).name = ("law" : PySem.Str) := by kernel_rfl
      rw [← e]
      exact hmg0
    obtain ⟨fd, hb, hF⟩ := Toy.facts (P := (PySem.Challenge.rw_watchedways_k33_turned_and_beside).prog) (w := w) KX G hmg c x
    exact ⟨K, fd, Toy.spLaw K, KX, hb, fun H a ns hl _ hS => ⟨a, ns, rfl, hS, hl, fun _ => rfl⟩, hF⟩

