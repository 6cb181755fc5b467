/-
  Texts of this seat, joined.
-/
import Derived.Test.YtdblkeeicmncfaaGreatJ3
import Derived.LoopN
/- ---- Sxd ---- -/
section
/-
  A walker that goes by reckoning: what one operation leaves, and that it does.
-/
set_option maxRecDepth 100000
namespace Go.Proofs.YtdblkeeicmncfaaGreat
open Go.RowKit

def cmpE (op : BinOp) (x y : IT) : Option BT :=
  match op with
  | .eql => some (.eq x y)
  | .neq => some (.not (.eq x y))
  | .lss => some (.lt x y)
  | .leq => some (.le x y)
  | .gtr => some (.lt y x)
  | .geq => some (.le y x)
  | _ => none
/-- Numbers that are small by their form. -/
def tiny : IT → Bool
  | .lit z => decide (-1000 ≤ z) && decide (z ≤ 1000)
  | .a2 3 _ _ => true
  | _ => false
theorem tiny_spec {E : Env} {t : IT} (h : tiny t = true) : -1000 ≤ t.den E ∧ t.den E ≤ 1000 := by
  unfold tiny at h
  split at h
  · rw [Bool.and_eq_true, decide_eq_true_iff, decide_eq_true_iff] at h; exact h
  · rename_i x y
    show -1000 ≤ cmpZ (x.den E) (y.den E) ∧ cmpZ (x.den E) (y.den E) ≤ 1000
    rcases cmpZ_cases (x.den E) (y.den E) with ⟨_, h⟩ | ⟨_, h⟩ | ⟨_, h⟩ <;> rw [h] <;> omega
  · cases h
/-- Numbers of a kind, wrapped. -/
def wrF : IntKind → Option Nat
  | .i64 => some 20
  | .u64 => some 21
  | .u32 => some 22
  | _ => none
theorem wrF_spec {k : IntKind} {f : Nat} (h : wrF k = some f) (x : Int) : fn1 f x = k.wrap x := by
  unfold wrF at h
  split at h <;> (try injection h with h; subst h; rfl)
  cases h
def IT.fold (t : IT) : IT := match t.cl with | some z => .lit z | none => t
theorem IT.fold_den {E : Env} (t : IT) : t.fold.den E = t.den E := by
  unfold IT.fold
  split
  · rename_i z hz; rw [IT.cl_spec hz]; rfl
  · rfl
def wrE (k : IntKind) (t : IT) : Option AV := (wrF k).map fun f => .val false [.n k (IT.a1 f t).fold]
def arE (op : BinOp) (k : IntKind) (a b : IT) : Option AV :=
  match op with
  | .add => wrE k (.a2 0 a b)
  | .sub => wrE k (.a2 1 a b)
  | .mul => wrE k (.a2 2 a b)
  | .or => if k = .u64 then some (.val false [.n k (IT.a2 14 a b).fold]) else none
  | .rem => match b.cl with
    | some z => if z = 0 then none else some (.val false [.n k (IT.a2 15 a (.lit z)).fold])
    | none => none
  | .quo => match b.cl with
    | some z => if z = 0 then none else wrE k (.a2 16 a (.lit z))
    | none => none
  | _ => none
def shE (op : BinOp) (k : IntKind) (a b : IT) : Option AV :=
  match b.cl with
  | some z => if decide (0 ≤ z) && decide (z < (k.bits : Int)) then
      match op with
      | .shl => wrE k (.a2 17 a (.lit z))
      | .shr => some (.val false [.n k (IT.a2 18 a (.lit z)).fold])
      | _ => none
    else none
  | none => none
def cvtE (C : Cfg) (s d : TypeId) (x : AV) : Option AV :=
  match x with
  | .val false [.n _ t] => match C.cnv s d with
    | some k => wrE k t
    | none => none
  | _ => none
def isSh (op : BinOp) : Bool := match op with | .shl => true | .shr => true | _ => false
def binE (C : Cfg) (G : Asm) (op : BinOp) (ty : TypeId) (x y : AV) : Option AV :=
  match x, y with
  | .val false [.str s l], .val false [.str t m] => match op with
    | .eql => some (.val false [.b ((BT.seq s t).norm G)])
    | .neq => some (.val false [.b ((BT.not (.seq s t)).norm G)])
    | .add => if decide (l + m ≤ 1000000000000) then some (.val false [.str (.cat s t) (l + m)]) else none
    | _ => none
  | .val false [.b s], .val false [.b t] => if C.bool ty then
      match op, s.ev G, t.ev G with
      | .neq, some a, some b => some (.val false [.b (.lit (a != b))])
      | .eql, some a, some b => some (.val false [.b (.lit (a == b))])
      | _, _, _ => none
    else none
  | .val false [.n k a], .val false [.n k' b] =>
    if isSh op then shE op k a b else
    if k = k' then
      match cmpE op a b with
      | some t => some (.val false [.b (t.norm G)])
      | none => match op, k with
        | .mul, .i64 => if tiny a && tiny b then some (.val false [.n .i64 (.a2 2 a b)]) else arE .mul .i64 a b
        | .add, .i64 => match a.cl, b.cl with
          | some p, some q => if decide (-1000000 ≤ p + q) && decide (p + q ≤ 1000000) then some (.val false [.n .i64 (.lit (p + q))]) else none
          | none, some q => if q == 1 && (G.find (.lt a (.lit 300)) == some true && G.find (.le (.lit 0) a) == some true) then some (.val false [.n .i64 (.a2 0 a b)]) else arE .add .i64 a b
          | _, none => arE .add .i64 a b
        | op, k => arE op k a b
    else none
  | _, _ => none
def unE (G : Asm) (op : UnOp) (x : AV) : Option AV :=
  match op, x with
  | .not, .val false [.b t] => some (.val false [.b ((BT.not t).norm G)])
  | .neg, .val false [.n .i64 (.lit z)] => if decide (-1000 ≤ z) && decide (z ≤ 1000) then some (.val false [.n .i64 (.lit (-z))]) else none
  | .neg, .val false [.n .i64 t] => if tiny t then some (.val false [.n .i64 (.a1 0 t)]) else wrE .i64 (.a2 1 (.lit 0) t)
  | .neg, .val false [.n k t] => wrE k (.a2 1 (.lit 0) t)
  | _, _ => none
def opnds (look : Nat → Option AV) : List Operand → Option (List AV)
  | [] => some []
  | o :: os => match opnd look o, opnds look os with
    | some x, some xs => some (x :: xs)
    | _, _ => none
/-- The parts of a struct, all of them and in order. -/
def partsE (look : Nat → Option AV) : List (Nat × Operand) → List (Nat × Nat) → Nat → Nat → Option (List Chunk)
  | [], [], _, _ => some []
  | (i, x) :: ps, (off, size) :: fs, k, at_ =>
    match opnd look x with
    | some (.val _ cs) => if i == k && (off == at_ && (size == sizes cs)) then (partsE look ps fs (k + 1) (at_ + size)).map (cs ++ ·) else none
    | _ => none
  | _, _, _, _ => none
/-- The parts of a struct, in order; what is not given is zero. -/
def partsZ (look : Nat → Option AV) : List (Nat × Nat) → List (Nat × Operand) → List Chunk → Nat → Nat → Option (List Chunk)
  | _, [], zs, _, _ => some zs
  | (off, size) :: fs, (i, x) :: ps, zs, k, at_ =>
    match splitC zs size with
    | some (zl, zr) =>
      if i == k then
        match opnd look x with
        | some (.val _ cs) => if off == at_ && size == sizes cs then (partsZ look fs ps zr (k + 1) (at_ + size)).map (cs ++ ·) else none
        | _ => none
      else (partsZ look fs ((i, x) :: ps) zr (k + 1) (at_ + size)).map (zl ++ ·)
    | none => none
  | [], _ :: _, _, _, _ => none
def partsB (look : Nat → Option AV) (fs : List (Nat × Nat)) (ps : List (Nat × Operand)) (zs : List Chunk) : Option (List Chunk) :=
  match partsE look ps fs 0 0 with
  | some cs => some cs
  | none => partsZ look fs ps zs 0 0
/-- A sign and limbs make an integer. -/
def fuse : List Chunk → List Chunk
  | [.b (.lt x (.lit 0)), .mag y l] => if x.beq y then [.int y l] else [.b (.lt x (.lit 0)), .mag y l]
  | cs => cs
theorem fuse_spec {E : Env} {w : World} {cs : List Chunk} {vs : List Value} (h : chunks E w cs vs) : chunks E w (fuse cs) vs := by
  unfold fuse
  split
  · rename_i x y l
    split
    · rename_i hb
      have := IT.eq_of_beq hb
      subst this
      obtain ⟨a, r, rfl, ha, b, r2, rfl, ⟨u, rfl, ⟨ao, cap, rfl, h1, h2, h3⟩, hl⟩, hr⟩ := h
      simp only [Chunk.holds] at ha
      simp only [chunks] at hr
      subst ha hr
      exact ⟨[_, _], [], rfl, ⟨_, _, rfl, ⟨ao, cap, rfl, h1, h2, h3⟩, hl⟩, rfl⟩
    · exact h
  · exact h
/-- How long a slice is. -/
def lenE : Chunk → Option AV
  | .mag t _ => some (.val false [.n .i64 (.a1 4 t)])
  | .rmag i => some (.val false [.n .i64 (.rlen i)])
  | .nilSlice => some (.val false [.n .i64 (.lit 0)])
  | _ => none
/-- How long a text is. -/
def slenE : Chunk → Option AV
  | .str (.var i) _ => some (.val false [.n .i64 (.slen i)])
  | .str (.lit l) _ => some (.val false [.n .i64 (.lit (l.length : Int))])
  | _ => none
/-- A place in a variable. -/
def opndP (look : Nat → Option AV) (o : Operand) : Option (Nat × Nat) :=
  match opnd look o with
  | some (.ptr x off) => if off < big then some (x, off) else none
  | _ => none
/-- What lies in the rows among arguments. -/
def memOf (var : Nat → Option (List Chunk)) : AV → Option (List Chunk)
  | .ptr x off => if off < big then none else var x
  | _ => none
def places (size : Nat) (len : Nat) : List (Nat × Nat) := (List.range len).map fun i => (i * size, size)
def callE (C : Cfg) (G : Asm) (look : Nat → Option AV) (var : Nat → Option (List Chunk)) (c : Call) : Option AV :=
  match c.callee with
  | .value f => match opnd look f with
    | some (.val false [.fn g]) => match opnds look c.args.toList with
      | some xs => C.calls g xs (xs.map (memOf var)) G
      | none => none
    | _ => none
  | .builtin .len => match c.argTypes.toList, c.args.toList with
    | t :: _, [x] => match opnd look x with
      | some (.val false [ch]) => if C.slc t then lenE ch else if C.strT t then slenE ch else none
      | some (.ptr _ off) => if decide (big ≤ off) && (C.row t).isSome then some (.val false [.n .i64 (.lit ((off - big : Nat) : Int))]) else none
      | _ => none
    | _, _ => none
  | .builtin .append => match c.argTypes.toList, c.args.toList with
    | [t, u], [x, y] => match opnd look x, opnd look y with
      | some (.val false [.nilSlice]), some (.val false [.mag s l]) => if C.slc t && (t == u && decide (l ≤ 1099511627776)) then some (.val false [.mag s l]) else none
      | _, _ => none
    | _, _ => none
  | _ => none
/-- A place in a row or in an array. -/
def idxE (C : Cfg) (look : Nat → Option AV) (t : TypeId) (x i : Operand) : Option (Nat × Nat) :=
  match opnd look i with
  | some (.val false [.n _ ti]) => match ti.cl with
    | some z => match C.row t with
      | some e => match opnd look x, C.ag e with
        | some (.ptr y off), some (_, size) => if decide (big ≤ off) && (decide (0 ≤ z) && (decide (z < ((off - big : Nat) : Int)) && decide (z.toNat * size < big))) then some (y, z.toNat * size) else none
        | _, _ => none
      | none => match C.arr t with
        | some (len, e) => match opndP look x, C.ag e with
          | some (y, off), some (_, size) => if decide (0 ≤ z) && (decide (z < (len : Int)) && decide (off + z.toNat * size < big)) then some (y, off + z.toNat * size) else none
          | _, _ => none
        | none => none
    | none => none
  | _ => none
def opE (C : Cfg) (G : Asm) (look : Nat → Option AV) (var : Nat → Option (List Chunk)) (o : Op) : Option Eff :=
  match o with
  | .move x => (opnd look x).map .set
  | .assign x => (opnd look x).map .set
  | .pick c a b => match opnd look c with
    | some (.val false [.b t]) => match t.ev G with
      | some true => (opnd look a).map .set
      | some false => (opnd look b).map .set
      | none => none
    | _ => none
  | .alloc t => (C.zero t).map fun cs => .new t cs 0
  | .box t x => match opnd look x with
    | some (.val _ cs) => some (.new t cs 0)
    | _ => none
  | .buildSlice t len parts => match C.row t with
    | some e => match C.zero e, C.ag e with
      | some zs, some (_, size) => match partsE look parts.toList (places size len) 0 0 with
        | some cs => if sizes cs == len * size && (decide (len * size ≤ 1000) && (!(len * size == 0) && sizes zs == size)) then some (.new e cs (big + len)) else none
        | none => none
      | _, _ => none
    | none => none
  | .build t parts => match C.flds t, C.zero t with
    | some fs, some zs => if parts.isEmpty then some (.set (.val true zs)) else
      match partsB look fs parts.toList zs with
      | some cs => if sizes cs == sizes zs then some (.set (.val true (fuse cs))) else none
      | none => none
    | _, _ => none
  | .load t a => match opndP look a with
    | some (x, off) => match var x with
      | some cs => (loadE C cs off t).map .set
      | none => none
    | _ => none
  | .store t a x => match opndP look a, opnd look x with
    | some (y, off), some (.val b cs) => match var y with
      | some cx => (storeE C cx off t b cs).map (.put y)
      | none => none
    | _, _ => none
  | .binOp op t x y _ => match opnd look x, opnd look y with
    | some a, some b => (binE C G op t a b).map .set
    | _, _ => none
  | .unOp op _ x => match opnd look x with
    | some a => (unE G op a).map .set
    | none => none
  | .convert s d x => match opnd look x with
    | some a => (cvtE C s d a).map .set
    | none => none
  | .fieldAddr t x k => match opndP look x, C.fld t k with
    | some (y, off), some d => if off + d < big then some (.set (.ptr y (off + d))) else none
    | _, _ => none
  | .indexAddr t x i => (idxE C look t x i).map fun p => .set (.ptr p.1 p.2)
  | .extract x i => match opnd look x with
    | some (.tup l) => match l[i]? with
      | some p => some (.set (.val p.1 p.2))
      | none => none
    | _ => none
  | .call c => (callE C G look var c).map .set
  | _ => none

section
variable {P : Program} {E : Env} {β : Nat → Nat} {B : Nat} {w : World} {a : Act} {G : Asm} {C : Cfg} {look : Nat → Option AV} {var : Nat → Option (List Chunk)}
theorem wrE_nptr {k : IntKind} {t : IT} {x off : Nat} (h : wrE k t = some (.ptr x off)) : False := by
  unfold wrE at h
  obtain ⟨_, _, h⟩ := Option.map_eq_some_iff.1 h
  cases h
theorem arE_nptr {op : BinOp} {k : IntKind} {s t : IT} {x off : Nat} (h : arE op k s t = some (.ptr x off)) : False := by
  unfold arE at h
  split at h
  · exact wrE_nptr h
  · exact wrE_nptr h
  · exact wrE_nptr h
  · split at h <;> cases h
  · split at h
    · split at h <;> cases h
    · cases h
  · split at h
    · split at h
      · cases h
      · exact wrE_nptr h
    · cases h
  · cases h
theorem shE_nptr {op : BinOp} {k : IntKind} {s t : IT} {x off : Nat} (h : shE op k s t = some (.ptr x off)) : False := by
  unfold shE at h
  split at h
  · split at h
    · split at h
      · exact wrE_nptr h
      · cases h
      · cases h
    · cases h
  · cases h
theorem num_holds {k : IntKind} {t : IT} {z : Int} (h : t.den E = z) : (AV.val false [.n k t]).holds E β w (.int k z) :=
  ⟨⟨[.int k z], [], rfl, (by show [Value.int k z] = [.int k (t.den E)]; rw [h]), rfl⟩, rfl⟩
theorem wrE_spec {k : IntKind} {t : IT} {z : AV} (h : wrE k t = some z) : z.holds E β w (.int k (k.wrap (t.den E))) := by
  unfold wrE at h
  obtain ⟨f, hf, rfl⟩ := Option.map_eq_some_iff.1 h
  refine num_holds ?_
  rw [IT.fold_den]
  exact wrF_spec hf _
theorem arE_sound {op : BinOp} {k : IntKind} {s r : IT} {z : AV} (t : TypeId) (h : arE op k s r = some z) : ∃ v, (binOp op t (.int k (s.den E)) (.int k (r.den E))).run P w = .ok v w ∧ z.holds E β w v := by
  unfold arE at h
  split at h
  · exact ⟨_, by simp [binOp, Op.intArith]; rfl, wrE_spec h⟩
  · exact ⟨_, by simp [binOp, Op.intArith]; rfl, wrE_spec h⟩
  · exact ⟨_, by simp [binOp, Op.intArith]; rfl, wrE_spec h⟩
  · split at h
    · rename_i hk
      subst hk
      injection h with h
      subst h
      exact ⟨.int .u64 (IntKind.u64.wrap ((BitVec.ofInt 64 (s.den E) ||| BitVec.ofInt 64 (r.den E)).toNat : Int)), by simp [binOp]; rfl, num_holds (by rw [IT.fold_den]; rfl)⟩
    · cases h
  · split at h
    · rename_i c hc
      split at h
      · cases h
      · rename_i hz
        injection h with h
        subst h
        have hcv := IT.cl_spec (E := E) hc
        exact ⟨.int k ((s.den E).tmod c), by simp [binOp, Op.intDiv, hcv, hz], num_holds (by rw [IT.fold_den]; rfl)⟩
    · cases h
  · split at h
    · rename_i c hc
      split at h
      · cases h
      · rename_i hz
        have hcv := IT.cl_spec (E := E) hc
        exact ⟨.int k (k.wrap ((s.den E).tdiv c)), by simp [binOp, Op.intDiv, hcv, hz], wrE_spec h⟩
    · cases h
  · cases h
theorem shE_sound {op : BinOp} {k k' : IntKind} {s r : IT} {z : AV} (t : TypeId) (h : shE op k s r = some z) : ∃ v, (binOp op t (.int k (s.den E)) (.int k' (r.den E))).run P w = .ok v w ∧ z.holds E β w v := by
  unfold shE at h
  split at h
  · rename_i c hc
    split at h
    · rename_i hb
      simp only [Bool.and_eq_true, decide_eq_true_iff] at hb
      obtain ⟨b1, b2⟩ := hb
      have hcv := IT.cl_spec (E := E) hc
      have hmin : min c.toNat k.bits = c.toNat := by omega
      split at h
      · refine ⟨_, ?_, wrE_spec h⟩
        show (Op.shift .shl k (s.den E) k' (r.den E)).run P w = _
        rw [hcv]
        unfold Op.shift
        rw [if_neg (by omega)]
        simp only [hmin]
        rfl
      · injection h with h
        subst h
        refine ⟨.int k ((s.den E).fdiv (2 ^ c.toNat)), ?_, num_holds (by rw [IT.fold_den]; rfl)⟩
        show (Op.shift .shr k (s.den E) k' (r.den E)).run P w = _
        rw [hcv]
        unfold Op.shift
        rw [if_neg (by omega)]
        simp only [hmin]
        rfl
      · cases h
    · cases h
  · cases h
theorem wp_value {o : Oper} {K : Act → World → Prop} {Q : Exit → Act → World → Prop} {s : Sem Value} {v : Value} {w' : World} (he : execOp a.eval o = (do pure (.value (← s)))) (hr : s.run P w = .ok v w') (h : K (a.put o.dst v) w') : Oper.wp P o a w K Q := by
  unfold Oper.wp
  rw [he]
  simp only [Sem.run_bind, hr, Result.andThen_ok, Sem.run_pure, Oper.upon_value]
  exact h
theorem wp_unit {o : Oper} {K : Act → World → Prop} {Q : Exit → Act → World → Prop} {s : Sem Unit} {w' : World} (he : execOp a.eval o = (do s; pure .skip)) (hr : s.run P w = .ok () w') (h : K (a.put o.dst undef) w') : Oper.wp P o a w K Q := by
  unfold Oper.wp
  rw [he]
  simp only [Sem.run_bind, hr, Result.andThen_ok, Sem.run_pure, Oper.upon_skip]
  exact h
theorem opnds_spec (hl : ∀ t x, look t = some x → x.holds E β w (a.tmps.getD t Go.undef)) : ∀ {os : List Operand} {xs : List AV}, opnds look os = some xs →
    (∀ (i : Nat) (x : AV), xs[i]? = some x → ∃ v, (os.map a.eval)[i]? = some v ∧ x.holds E β w v) ∧ (os.map a.eval).length = xs.length
  | [], _, h => by simp only [opnds] at h; injection h with h; subst h; simp
  | o :: os, _, h => by
    unfold opnds at h
    split at h
    · rename_i x xs h1 h2
      injection h with h
      subst h
      obtain ⟨k1, k2⟩ := opnds_spec hl h2
      refine ⟨fun i y hy => ?_, by simp [← k2]⟩
      match i, hy with
      | 0, hy => injection hy with hy; subst hy; exact ⟨_, rfl, opnd_spec hl h1⟩
      | i + 1, hy => exact k1 i y hy
    · cases h

theorem sizes_append (ds rest : List Chunk) : sizes (ds ++ rest) = sizes ds + sizes rest := by
  induction ds with
  | nil => simp [sizes]
  | cons c ds ih => simp only [List.cons_append, sizes, ih]; omega
theorem foldl_set (off : Nat) : ∀ (l : List Value) (k : Nat) (A R : List Value), A.length = off + k → l.length ≤ R.length →
    (l.zipIdx k).foldl (fun (cs : Array Value) p => cs.setIfInBounds (off + p.2) p.1) (A ++ R).toArray = (A ++ l ++ R.drop l.length).toArray
  | [], k, A, R, _, _ => by simp
  | v :: l, k, A, R, h, hl => by
    match R, hl with
    | r :: R, hl =>
      rw [List.zipIdx_cons, List.foldl_cons]
      have e : ((A ++ r :: R).toArray.setIfInBounds (off + k) v) = ((A ++ [v]) ++ R).toArray := by
        simp [h]
      rw [e, foldl_set off l (k + 1) (A ++ [v]) R (by simp; omega) (by simpa using hl)]
      simp
theorem fill_seq (place : Nat → Option (Nat × Nat)) (hl : ∀ t x, look t = some x → x.holds E β w (a.tmps.getD t Go.undef)) : ∀ (ps : List (Nat × Operand)) (fs : List (Nat × Nat)) (k : Nat) (A R : List Value) (cs : List Chunk),
    partsE look ps fs k A.length = some cs → (∀ i p, fs[i]? = some p → place (k + i) = some p) → R.length = sizes cs →
    ∃ us, chunks E w cs us ∧ Instr.fill place (A ++ R).toArray (ps.map fun p => (p.1, a.eval p.2)) = some (A ++ us).toArray
  | [], [], k, A, R, cs, h, _, hR => by
    simp only [partsE] at h
    injection h with h
    subst h
    simp only [sizes, List.length_eq_zero_iff] at hR
    subst hR
    exact ⟨[], rfl, rfl⟩
  | [], _ :: _, _, _, _, _, h, _, _ => by simp [partsE] at h
  | _ :: _, [], _, _, _, _, h, _, _ => by simp [partsE] at h
  | (i, x) :: ps, (off, size) :: fs, k, A, R, cs, h, hp, hR => by
    unfold partsE at h
    split at h
    · rename_i bb ds hx
      split at h
      · rename_i hcond
        simp only [Bool.and_eq_true, beq_iff_eq] at hcond
        obtain ⟨rfl, rfl, rfl⟩ := hcond
        obtain ⟨rest, hrest, rfl⟩ := Option.map_eq_some_iff.1 h
        have hv := opnd_spec (E := E) (β := β) (w := w) hl hx
        obtain ⟨us, hus⟩ : ∃ us, us = (a.eval x).cells.toList := ⟨_, rfl⟩
        have hc := one_cells hv
        rw [← hus] at hc
        have hul : us.length = sizes ds := chunks_len hc
        have hsz : (a.eval x).cells.size = sizes ds := by rw [← hul, hus]; simp
        have hsum := sizes_append ds rest
        rw [hsum] at hR
        have hpl := hp 0 _ rfl
        rw [Nat.add_zero] at hpl
        obtain ⟨vs, h1, h2⟩ := fill_seq place hl ps fs (i + 1) (A ++ us) (R.drop us.length) rest (by rw [List.length_append, hul]; exact hrest) (fun j p hj => by
          have := hp (j + 1) p (by simpa using hj)
          rwa [show i + (j + 1) = i + 1 + j by omega] at this) (by rw [List.length_drop]; omega)
        refine ⟨us ++ vs, chunks_append hc h1, ?_⟩
        rw [List.map_cons]
        unfold Instr.fill
        simp only [hpl]
        have hcond : (decide ((a.eval x).cells.size ≠ sizes ds) || decide (A.length + (a.eval x).cells.size > (A ++ R).toArray.size)) = false := by
          rw [hsz]
          simp
          omega
        simp only [hcond, Bool.false_eq_true, if_false]
        rw [← Array.foldl_toList, Array.toList_zipIdx, ← hus, foldl_set A.length us 0 A R (by omega) (by omega)]
        rw [h2, List.append_assoc]
      · cases h
    · cases h

theorem fill_seqZ (place : Nat → Option (Nat × Nat)) (hl : ∀ t x, look t = some x → x.holds E β w (a.tmps.getD t Go.undef)) : ∀ (fs : List (Nat × Nat)) (ps : List (Nat × Operand)) (zs : List Chunk) (k : Nat) (A R : List Value) (cs : List Chunk),
    partsZ look fs ps zs k A.length = some cs → (∀ i p, fs[i]? = some p → place (k + i) = some p) → chunks E w zs R →
    ∃ us, chunks E w cs us ∧ Instr.fill place (A ++ R).toArray (ps.map fun p => (p.1, a.eval p.2)) = some (A ++ us).toArray := by
  intro fs
  induction fs with
  | nil =>
    intro ps zs k A R cs h hp hR
    cases ps with
    | nil =>
      simp only [partsZ] at h
      injection h with h
      subst h
      exact ⟨R, hR, rfl⟩
    | cons p ps => simp [partsZ] at h
  | cons f fs ih =>
    obtain ⟨off, size⟩ := f
    intro ps zs k A R cs h hp hR
    cases ps with
    | nil =>
      simp only [partsZ] at h
      injection h with h
      subst h
      exact ⟨R, hR, rfl⟩
    | cons p ps =>
      obtain ⟨i, x⟩ := p
      simp only [partsZ] at h
      split at h
      · rename_i zl zr hsp
        obtain ⟨hzs, hsz, hzl, hzr⟩ := splitC_spec zs size zl zr R hsp hR
        have hlen := chunks_len hR
        have hsum := sizes_append zl zr
        rw [← hzs, hsz] at hsum
        have htake : (R.take size).length = size := by rw [List.length_take]; omega
        have hpl := hp 0 _ rfl
        rw [Nat.add_zero] at hpl
        have hp' : ∀ j p, fs[j]? = some p → place (k + 1 + j) = some p := fun j p hj => by
          have := hp (j + 1) p (by simpa using hj)
          rwa [show k + (j + 1) = k + 1 + j by omega] at this
        split at h
        · rename_i hik
          rw [beq_iff_eq] at hik
          subst hik
          split at h
          · rename_i bb ds hx
            split at h
            · rename_i hcond
              simp only [Bool.and_eq_true, beq_iff_eq] at hcond
              obtain ⟨rfl, hsd⟩ := hcond
              obtain ⟨rest, hrest, rfl⟩ := Option.map_eq_some_iff.1 h
              have hv := opnd_spec (E := E) (β := β) (w := w) hl hx
              obtain ⟨us, hus⟩ : ∃ us, us = (a.eval x).cells.toList := ⟨_, rfl⟩
              have hc := one_cells hv
              rw [← hus] at hc
              have hul : us.length = sizes ds := chunks_len hc
              have hsz2 : (a.eval x).cells.size = sizes ds := by rw [← hul, hus]; simp
              obtain ⟨vs, h1, h2⟩ := ih ps zr (i + 1) (A ++ us) (R.drop size) rest (by rw [List.length_append, hul, ← hsd]; exact hrest) hp' hzr
              refine ⟨us ++ vs, chunks_append hc h1, ?_⟩
              rw [List.map_cons]
              unfold Instr.fill
              simp only [hpl]
              have hcond : (decide ((a.eval x).cells.size ≠ size) || decide (A.length + (a.eval x).cells.size > (A ++ R).toArray.size)) = false := by
                rw [hsz2, hsd]
                simp
                omega
              simp only [hcond, Bool.false_eq_true, if_false]
              rw [← Array.foldl_toList, Array.toList_zipIdx, ← hus, foldl_set A.length us 0 A R (by omega) (by omega)]
              rw [show us.length = size by rw [hul, hsd], h2, List.append_assoc]
            · cases h
          · cases h
        · obtain ⟨rest, hrest, rfl⟩ := Option.map_eq_some_iff.1 h
          obtain ⟨vs, h1, h2⟩ := ih ((i, x) :: ps) zr (k + 1) (A ++ R.take size) (R.drop size) rest (by rw [List.length_append, htake]; exact hrest) hp' hzr
          refine ⟨R.take size ++ vs, chunks_append hzl h1, ?_⟩
          rw [List.append_assoc, List.take_append_drop, List.append_assoc] at h2
          exact h2
      · cases h
set_option maxHeartbeats 1000000 in
theorem pv_lt {b off : Nat} (h : off < big) : pv b off = .pointer (some ⟨b, off, none⟩) := if_pos h
theorem opndP_spec (hl : ∀ t x, look t = some x → x.holds E β w (a.tmps.getD t Go.undef)) {x : Operand} {y off : Nat} (h : opndP look x = some (y, off)) : a.eval x = .pointer (some ⟨β y, off, none⟩) ∧ opnd look x = some (.ptr y off) := by
  unfold opndP at h
  split at h
  · rename_i y' off' hx
    split at h
    · rename_i hlt
      injection h with h
      injection h with h1 h2
      subst h1 h2
      have := opnd_spec (E := E) (β := β) (w := w) hl hx
      exact ⟨Eq.trans this (pv_lt hlt), hx⟩
    · cases h
  · cases h
theorem places_get {size len i : Nat} {p : Nat × Nat} (h : (places size len)[i]? = some p) : p = (i * size, size) := by
  unfold places at h
  rw [List.getElem?_map] at h
  obtain ⟨j, hj, rfl⟩ := Option.map_eq_some_iff.1 h
  obtain ⟨hlt, e⟩ := List.getElem?_eq_some_iff.1 hj
  rw [List.getElem_range] at e
  rw [e]
theorem idxE_sound (hC : CfgOK P E C) (hl : ∀ t x, look t = some x → x.holds E β w (a.tmps.getD t Go.undef)) {t : TypeId} {x i : Operand} {y off : Nat} (h : idxE C look t x i = some (y, off)) :
    off < big ∧ (Instr.indexAt t (a.eval x) (a.eval i)).run P w = .ok (.pointer (some ⟨β y, off, none⟩)) w ∧ ∃ off', opnd look x = some (.ptr y off') := by
  unfold idxE at h
  split at h
  · rename_i k ti hi
    obtain ⟨⟨l1, r1, h1, h2, h3⟩, _⟩ := opnd_spec (E := E) (β := β) (w := w) hl hi
    simp only [Chunk.holds] at h2
    simp only [chunks] at h3
    subst h2 h3
    injection h1 with h1
    split at h
    · rename_i z hz
      rw [IT.cl_spec hz] at h1
      split at h
      · rename_i e he
        split at h
        · rename_i y' off' bb size hx ha
          split at h
          · rename_i hb
            simp only [Bool.and_eq_true, decide_eq_true_iff] at hb
            obtain ⟨b1, b2, b3, b4⟩ := hb
            injection h with h
            injection h with e1 e2
            subst e1 e2
            obtain ⟨_, hso, _⟩ := hC.ag e bb size ha w
            have hxv : a.eval x = .slice (some ⟨β y', 0, none⟩) (off' - big) (off' - big) := by
              have := opnd_spec (E := E) (β := β) (w := w) hl hx
              refine Eq.trans this ?_
              unfold pv
              rw [if_neg (by omega)]
            refine ⟨b4, ?_, off', hx⟩
            rw [hxv, h1]
            unfold Instr.indexAt
            have hlt : (0 : Int) ≤ z ∧ z < ((off' - big : Nat) : Int) := ⟨b2, b3⟩
            simp only [asIntOf, Sem.run_bind, Sem.run_pure, Result.andThen_ok, run_underlying (hC.row t e he), if_pos hlt, hso, add_addr, Nat.zero_add]
          · cases h
        · cases h
      · split at h
        · rename_i len e he
          split at h
          · rename_i y' off' bb size hx ha
            split at h
            · rename_i hb
              simp only [Bool.and_eq_true, decide_eq_true_iff] at hb
              obtain ⟨b1, b2, b3⟩ := hb
              injection h with h
              injection h with e1 e2
              subst e1 e2
              obtain ⟨_, hso, _⟩ := hC.ag e bb size ha w
              obtain ⟨hxv, hx2⟩ := opndP_spec (E := E) (β := β) (w := w) hl hx
              refine ⟨b3, ?_, off', hx2⟩
              rw [hxv, h1]
              unfold Instr.indexAt
              have hlt : (0 : Int) ≤ z ∧ z < (len : Int) := ⟨b1, b2⟩
              simp only [asIntOf, Sem.run_bind, Sem.run_pure, Result.andThen_ok, run_underlying (hC.arr t len e he), Instr.sureAddr, if_pos hlt, hso, add_addr]
            · cases h
          · cases h
        · cases h
    · cases h
  · cases h
theorem opE_sound (hC : CfgOK P E C) (hwk : C.wok w) (hG : G.holds E) (hl : ∀ t x, look t = some x → x.holds E β w (a.tmps.getD t Go.undef)) (hv : ∀ x cs, var x = some cs → (x < ro → B ≤ β x) ∧ VarAt E w (β x) cs)
    {o : Oper} {eff : Eff} (h : opE C G look var o.op = some eff) (K : Act → World → Prop) (Q : Exit → Act → World → Prop) (hro : ∀ x cs, eff = .put x cs → x < ro)
    (hset : ∀ x v w', eff = .set x → x.holds E β w' v → Ext w w' → K (a.put o.dst v) w')
    (hnew : ∀ t cs vs off, eff = .new t cs off → chunks E w cs vs → K (a.put o.dst (pv w.heap.size off)) (w.alloc (.cells vs.toArray t)))
    (hput : ∀ x cs w', eff = .put x cs → Kp B w w' → (∀ p : Addr, p.block ≠ β x → w'.cell? p = w.cell? p) → (∀ p, w'.frozen? p = w.frozen? p) → w'.heap.size = w.heap.size → VarAt E w' (β x) cs → K (a.put o.dst undef) w') :
    Oper.wp P o a w K Q := by
  obtain ⟨dst, op, ty, pos, after, guard⟩ := o
  cases op with
  | move x =>
    simp only [opE] at h
    obtain ⟨y, hy, rfl⟩ := Option.map_eq_some_iff.1 h
    exact hset _ _ _ rfl (opnd_spec hl hy) (Ext.refl w)
  | assign x =>
    simp only [opE] at h
    obtain ⟨y, hy, rfl⟩ := Option.map_eq_some_iff.1 h
    exact hset _ _ _ rfl (opnd_spec hl hy) (Ext.refl w)
  | pick c x y =>
    simp only [opE] at h
    split at h
    · rename_i t hc
      have hcv := opnd_spec (E := E) (β := β) (w := w) hl hc
      obtain ⟨⟨l, r, h1, h2, h3⟩, _⟩ := hcv
      simp only [Chunk.holds] at h2
      simp only [chunks] at h3
      subst h2 h3
      injection h1 with h1
      have hrun : ∀ b, t.den E = b → execOp a.eval ⟨dst, .pick c x y, ty, pos, after, guard⟩ = (do pure (.value (if ← asBool (.bool b) then a.eval x else a.eval y))) := by
        intro b hb
        simp only [execOp, h1, hb]
      split at h
      · rename_i ht
        obtain ⟨z, hz, rfl⟩ := Option.map_eq_some_iff.1 h
        unfold Oper.wp
        rw [hrun true (BT.ev_spec hG ht)]
        simp [asBool]
        exact hset _ _ _ rfl (opnd_spec hl hz) (Ext.refl w)
      · rename_i ht
        obtain ⟨z, hz, rfl⟩ := Option.map_eq_some_iff.1 h
        unfold Oper.wp
        rw [hrun false (BT.ev_spec hG ht)]
        simp [asBool]
        exact hset _ _ _ rfl (opnd_spec hl hz) (Ext.refl w)
      · cases h
    · cases h
  | alloc t =>
    simp only [opE] at h
    obtain ⟨cs, hz, rfl⟩ := Option.map_eq_some_iff.1 h
    obtain ⟨z, h1, h2⟩ := hC.zero t cs hz w
    refine wp_value (s := Instr.alloc t true (.tuple #[])) rfl (v := .pointer (some ⟨w.heap.size, 0, none⟩)) (w' := w.alloc (.cells z.cells t)) ?_ ?_
    · simp [Instr.alloc, h1, newVar, newRow, newObj]; rfl
    · have := hnew t cs _ 0 rfl h2
      simpa [pv, big] using this
  | box t x =>
    simp only [opE] at h
    split at h
    · rename_i bb cs hx
      injection h with h
      subst h
      have h2 := one_cells (opnd_spec (E := E) (β := β) (w := w) hl hx)
      refine wp_value (s := Instr.box t (a.eval x)) rfl (v := .pointer (some ⟨w.heap.size, 0, none⟩)) (w' := w.alloc (.cells (a.eval x).cells t)) ?_ ?_
      · simp [Instr.box, newVar, newRow, newObj]; rfl
      · have := hnew t cs _ 0 rfl h2
        simpa [pv, big] using this
    · cases h
  | buildSlice t len parts =>
    simp only [opE] at h
    split at h
    · rename_i e he
      split at h
      · rename_i zs bb size hz ha
        split at h
        · rename_i cs hp
          split at h
          · rename_i hsz
            injection h with h
            subst h
            simp only [Bool.and_eq_true, beq_iff_eq, decide_eq_true_iff, Bool.not_eq_true', beq_eq_false_iff_ne] at hsz
            obtain ⟨s1, s2, s3, s4⟩ := hsz
            obtain ⟨z, hz1, hz2⟩ := hC.zero e zs hz w
            obtain ⟨_, hso, _⟩ := hC.ag e bb size ha w
            obtain ⟨us, h1, h2⟩ := fill_seq (E := E) (β := β) (w := w) (a := a) (fun i => some (i * size, size)) hl parts.toList (places size len) 0 [] ((Array.range (len * size)).map (z.cells[· % z.cells.size]!)).toList cs hp (fun i p hi => by rw [places_get hi, Nat.zero_add]) (by simp [s1])
            refine wp_value (s := Instr.buildSlice t len (Array.map (fun (p : Nat × Operand) => (p.1, a.eval p.2)) parts)) rfl (v := .slice (some ⟨w.heap.size, 0, none⟩) len len) (w' := w.alloc (.cells us.toArray e)) ?_ ?_
            · unfold Instr.buildSlice
              have s2' : ¬ len * size > 2 ^ 24 := by omega
              simp only [Sem.run_bind, run_underlying (hC.row t e he), Result.andThen_ok, hso, if_neg s2', if_neg s3, hz1, Sem.run_pure]
              rw [Array.toList_map]
              simp only [List.nil_append, Array.toArray_toList] at h2
              rw [h2]
              simp [newRow, newObj]
              rfl
            · have := hnew e cs us (big + len) rfl h1
              rw [show pv w.heap.size (big + len) = .slice (some ⟨w.heap.size, 0, none⟩) len len from by unfold pv; rw [if_neg (by omega), Nat.add_sub_cancel_left]] at this
              exact this
          · cases h
        · cases h
      · cases h
    · cases h
  | build t parts =>
    simp only [opE] at h
    split at h
    · rename_i fs zs hf hz
      obtain ⟨z, hz1, hz2⟩ := hC.zero t zs hz w
      obtain ⟨fields, hu, hm⟩ := hC.flds t fs hf
      have hrun : ∀ us, Instr.fill (fs.toArray[·]?) z.cells ((parts.map fun (p : Nat × Operand) => (p.1, a.eval p.2)).toList) = some us → (Instr.build t (parts.map fun (i, x) => (i, a.eval x))).run P w = .ok (.agg us) w := by
        intro us hus
        unfold Instr.build
        simp only [Sem.run_bind, hz1, Result.andThen_ok, run_underlying hu, hm w]
        rw [hus]
        simp
      split at h
      · rename_i hemp
        injection h with h
        subst h
        have he : parts = #[] := by simpa using hemp
        subst he
        refine wp_value (s := Instr.build t (Array.map (fun (p : Nat × Operand) => (p.1, a.eval p.2)) #[])) rfl (hrun z.cells (by simp [Instr.fill])) ?_
        exact hset _ _ _ rfl ⟨z.cells.toList, by simp, hz2⟩ (Ext.refl w)
      · split at h
        · rename_i cs hp
          split at h
          · rename_i hsz
            injection h with h
            subst h
            rw [beq_iff_eq] at hsz
            obtain ⟨us, h1, h2⟩ : ∃ us, chunks E w cs us ∧ Instr.fill (fun i => fs.toArray[i]?) ([] ++ z.cells.toList).toArray (parts.toList.map fun p => (p.1, a.eval p.2)) = some ([] ++ us).toArray := by
              unfold partsB at hp
              split at hp
              · rename_i cs' hp'
                injection hp with hp
                subst hp
                exact fill_seq (E := E) (β := β) (w := w) (a := a) (fun i => fs.toArray[i]?) hl parts.toList fs 0 [] z.cells.toList _ hp' (fun i p hi => by rw [Nat.zero_add]; simpa using hi) (by rw [chunks_len hz2, hsz])
              · exact fill_seqZ (E := E) (β := β) (w := w) (a := a) (fun i => fs.toArray[i]?) hl fs parts.toList zs 0 [] z.cells.toList cs hp (fun i p hi => by rw [Nat.zero_add]; simpa using hi) hz2
            refine wp_value (s := Instr.build t (Array.map (fun (p : Nat × Operand) => (p.1, a.eval p.2)) parts)) rfl (hrun us.toArray ?_) ?_
            · rw [Array.toList_map]
              simpa using h2
            · exact hset _ _ _ rfl ⟨us, rfl, fuse_spec h1⟩ (Ext.refl w)
          · cases h
        · cases h
    · cases h
  | load t x =>
    simp only [opE] at h
    split at h
    · rename_i y off hx
      split at h
      · rename_i cs hy
        obtain ⟨z, hz, rfl⟩ := Option.map_eq_some_iff.1 h
        have he : a.eval x = .pointer (some ⟨β y, off, none⟩) := (opndP_spec (E := E) (β := β) (w := w) hl hx).1
        obtain ⟨v, k1, k2⟩ := loadE_sound (β := β) hC hz (hv y cs hy).2
        refine wp_value (s := Instr.loadAt t (a.eval x)) rfl (by rw [he]; exact k1) ?_
        exact hset _ _ _ rfl k2 (Ext.refl w)
      · cases h
    · cases h
  | store t x y =>
    simp only [opE] at h
    split at h
    · rename_i z off bb cs hx hy
      split at h
      · rename_i cx hz
        obtain ⟨c2, hc2, rfl⟩ := Option.map_eq_some_iff.1 h
        have he : a.eval x = .pointer (some ⟨β z, off, none⟩) := (opndP_spec (E := E) (β := β) (w := w) hl hx).1
        obtain ⟨hB, hva⟩ := hv z cx hz
        obtain ⟨w', k1, k2, k3, k4, k5, k6⟩ := storeE_sound hC hc2 hva (opnd_spec (E := E) (β := β) (w := w) hl hy) (hB (hro _ _ rfl))
        refine wp_unit (s := Instr.storeAt t (a.eval x) (a.eval y)) rfl (by rw [he]; exact k1) ?_
        exact hput _ _ _ rfl k2 k3 k4 k5 k6
      · cases h
    · cases h
  | binOp op t x y ty2 =>
    simp only [opE] at h
    split at h
    · rename_i u v hx hy
      obtain ⟨z, hz, rfl⟩ := Option.map_eq_some_iff.1 h
      have hxv := opnd_spec (E := E) (β := β) (w := w) hl hx
      have hyv := opnd_spec (E := E) (β := β) (w := w) hl hy
      unfold binE at hz
      split at hz
      · rename_i s l r m
        obtain ⟨⟨l1, r1, h1, ⟨h2, h4⟩, h3⟩, _⟩ := hxv
        simp only [chunks] at h3
        subst h2 h3
        injection h1 with h1
        obtain ⟨⟨l2, r2, j1, ⟨j2, j4⟩, j3⟩, _⟩ := hyv
        simp only [chunks] at j3
        subst j2 j3
        injection j1 with j1
        have hg : ∀ (o : BinOp) (x' y' : ByteArray), o = .eql ∨ o = .neq ∨ o = .add → eqGuard o t x y (.string x') (.string y') = pure () := by
          rintro o x' y' (rfl | rfl | rfl) <;> rfl
        split at hz
        · injection hz with hz
          subst hz
          refine wp_value (s := (do eqGuard .eql t x y (a.eval x) (a.eval y); binOp .eql t (a.eval x) (a.eval y))) rfl (v := .bool (s.den E == r.den E)) (w' := w) ?_ (hset _ _ _ rfl ⟨⟨[_], [], rfl, ?_, rfl⟩, rfl⟩ (Ext.refl w))
          · rw [h1, j1, hg _ _ _ (.inl rfl), binOp_string_eql, ByteArray.toList_mk, ByteArray.toList_mk]
            rfl
          · show [Value.bool _] = [.bool _]
            rw [BT.norm_den hG]; rfl
        · injection hz with hz
          subst hz
          refine wp_value (s := (do eqGuard .neq t x y (a.eval x) (a.eval y); binOp .neq t (a.eval x) (a.eval y))) rfl (v := .bool (!(s.den E == r.den E))) (w' := w) ?_ (hset _ _ _ rfl ⟨⟨[_], [], rfl, ?_, rfl⟩, rfl⟩ (Ext.refl w))
          · rw [h1, j1, hg _ _ _ (.inr (.inl rfl)), binOp_string_neq, ByteArray.toList_mk, ByteArray.toList_mk]
            rfl
          · show [Value.bool _] = [.bool _]
            rw [BT.norm_den hG]; rfl
        · split at hz
          · rename_i hlm
            have hlm' := of_decide_eq_true hlm
            injection hz with hz
            subst hz
            refine wp_value (s := (do eqGuard .add t x y (a.eval x) (a.eval y); binOp .add t (a.eval x) (a.eval y))) rfl (v := .string ⟨(s.den E ++ r.den E).toArray⟩) (w' := w) ?_ (hset _ _ _ rfl ⟨⟨[_], [], rfl, ⟨rfl, ?_⟩, rfl⟩, rfl⟩ (Ext.refl w))
            · rw [h1, j1, hg _ _ _ (.inr (.inr rfl)), binOp_string_add]
              simp only [Sem.run_bind, Sem.run_pure, Result.andThen_ok]
              rw [run_string_add_sum _ _ _ (by show (s.den E).toArray.size + (r.den E).toArray.size ≤ _; rw [List.size_toArray, List.size_toArray]; omega)]
              congr 2
            · show (s.den E ++ r.den E).length ≤ _
              rw [List.length_append]; omega
          · cases hz
        · cases hz
      · rename_i s r
        split at hz
        · rename_i hbt
          split at hz
          · rename_i b1 b2 e1 e2
            injection hz with hz
            subst hz
            obtain ⟨⟨l1, r1, h1, h2, h3⟩, _⟩ := hxv
            simp only [Chunk.holds] at h2
            simp only [chunks] at h3
            subst h2 h3
            injection h1 with h1
            obtain ⟨⟨l2, r2, j1, j2, j3⟩, _⟩ := hyv
            simp only [Chunk.holds] at j2
            simp only [chunks] at j3
            subst j2 j3
            injection j1 with j1
            rw [BT.ev_spec hG e1] at h1
            rw [BT.ev_spec hG e2] at j1
            refine wp_value (s := (do eqGuard .neq t x y (a.eval x) (a.eval y); binOp .neq t (a.eval x) (a.eval y))) rfl (v := .bool (b1 != b2)) (w' := w) ?_ (hset _ _ _ rfl ⟨⟨_, [], rfl, rfl, rfl⟩, rfl⟩ (Ext.refl w))
            rw [h1, j1, eqGuard_at_bool]
            have := run_equalIn_bool w 9999 t b1 b2 (hC.bool t hbt)
            simp only [binOp, Op.equal, Op.maxDepth, Sem.run_bind, Sem.run_pure, Result.andThen_ok]
            rw [this]
            cases b1 <;> cases b2 <;> rfl
          · rename_i b1 b2 e1 e2
            injection hz with hz
            subst hz
            obtain ⟨⟨l1, r1, h1, h2, h3⟩, _⟩ := hxv
            simp only [Chunk.holds] at h2
            simp only [chunks] at h3
            subst h2 h3
            injection h1 with h1
            obtain ⟨⟨l2, r2, j1, j2, j3⟩, _⟩ := hyv
            simp only [Chunk.holds] at j2
            simp only [chunks] at j3
            subst j2 j3
            injection j1 with j1
            rw [BT.ev_spec hG e1] at h1
            rw [BT.ev_spec hG e2] at j1
            refine wp_value (s := (do eqGuard .eql t x y (a.eval x) (a.eval y); binOp .eql t (a.eval x) (a.eval y))) rfl (v := .bool (b1 == b2)) (w' := w) ?_ (hset _ _ _ rfl ⟨⟨_, [], rfl, rfl, rfl⟩, rfl⟩ (Ext.refl w))
            rw [h1, j1, eqGuard_at_bool]
            have := run_equalIn_bool w 9999 t b1 b2 (hC.bool t hbt)
            simp only [binOp, Op.equal, Op.maxDepth, Sem.run_bind, Sem.run_pure, Result.andThen_ok]
            rw [this]
            cases b1 <;> cases b2 <;> rfl
          · cases hz
        · cases hz
      · rename_i k s k' r
        obtain ⟨⟨l1, r1, h1, h2, h3⟩, _⟩ := hxv
        simp only [Chunk.holds] at h2
        simp only [chunks] at h3
        subst h2 h3
        injection h1 with h1
        obtain ⟨⟨l2, r2, j1, j2, j3⟩, _⟩ := hyv
        simp only [Chunk.holds] at j2
        simp only [chunks] at j3
        subst j2 j3
        injection j1 with j1
        split at hz
        · obtain ⟨v', r1, r2⟩ := shE_sound (P := P) (E := E) (β := β) (w := w) (k' := k') t hz
          refine wp_value (s := (do eqGuard op t x y (a.eval x) (a.eval y); binOp op t (a.eval x) (a.eval y))) rfl (v := v') (w' := w) ?_ (hset _ _ _ rfl r2 (Ext.refl w))
          rw [h1, j1, eqGuard_at_int]
          simpa using r1
        split at hz
        · rename_i hk
          subst hk
          have hex : ∀ z, (binOp op t (.int k (s.den E)) (.int k (r.den E))).run P w = .ok z w → K (a.put dst z) w → Oper.wp P ⟨dst, .binOp op t x y ty2, ty, pos, after, guard⟩ a w K Q := by
            intro z hr hk
            refine wp_value (s := (do eqGuard op t x y (a.eval x) (a.eval y); binOp op t (a.eval x) (a.eval y))) rfl (v := z) (w' := w) ?_ hk
            rw [h1, j1, eqGuard_at_int]
            simpa using hr
          split at hz
          · rename_i tt htt
            injection hz with hz
            subst hz
            have fin : ∀ bb, tt.den E = bb → (AV.val false [.b (tt.norm G)]).holds E β w (.bool bb) := by
              intro bb hbb
              refine ⟨⟨[.bool bb], [], rfl, ?_, rfl⟩, rfl⟩
              show [Value.bool bb] = [.bool ((tt.norm G).den E)]
              rw [BT.norm_den hG, hbb]
            cases op <;> simp only [cmpE] at htt <;> cases htt
            · exact hex (.bool (s.den E == r.den E)) (by simp [binOp_eql]) (hset _ _ _ rfl (fin _ rfl) (Ext.refl w))
            · exact hex (.bool (s.den E != r.den E)) (by simp [binOp_neq]) (hset _ _ _ rfl (fin _ rfl) (Ext.refl w))
            · exact hex (.bool (decide (s.den E < r.den E))) (by simp [binOp_lss]) (hset _ _ _ rfl (fin _ rfl) (Ext.refl w))
            · exact hex (.bool (decide (s.den E ≤ r.den E))) (by simp [binOp_leq]) (hset _ _ _ rfl (fin _ rfl) (Ext.refl w))
            · exact hex (.bool (decide (s.den E > r.den E))) (by simp [binOp_gtr]) (hset _ _ _ rfl (fin _ rfl) (Ext.refl w))
            · exact hex (.bool (decide (s.den E ≥ r.den E))) (by simp [binOp_geq]) (hset _ _ _ rfl (fin _ rfl) (Ext.refl w))
          · split at hz
            · split at hz
              · rename_i ht
                rw [Bool.and_eq_true] at ht
                injection hz with hz
                subst hz
                have b1 := tiny_spec (E := E) ht.1
                have b2 := tiny_spec (E := E) ht.2
                refine hex (.int .i64 (s.den E * r.den E)) ?_ (hset _ _ _ rfl ⟨⟨_, [], rfl, rfl, rfl⟩, rfl⟩ (Ext.refl w))
                have hb : -1000000 ≤ s.den E * r.den E ∧ s.den E * r.den E ≤ 1000000 := by
                  have := Int.natAbs_mul (s.den E) (r.den E)
                  have h3 : (s.den E).natAbs * (r.den E).natAbs ≤ 1000 * 1000 := Nat.mul_le_mul (by omega) (by omega)
                  omega
                have hw : IntKind.i64.wrap (s.den E * r.den E) = s.den E * r.den E := IntWalk.i64_in _ (by omega)
                simp [binOp, Op.intArith, hw]
              · obtain ⟨v', r1, r2⟩ := arE_sound (P := P) (E := E) (β := β) (w := w) t hz
                exact hex v' r1 (hset _ _ _ rfl r2 (Ext.refl w))
            · split at hz
              · rename_i p q hp hq
                split at hz
                · rename_i ht
                  rw [Bool.and_eq_true, decide_eq_true_iff, decide_eq_true_iff] at ht
                  injection hz with hz
                  subst hz
                  refine hex (.int .i64 (p + q)) ?_ (hset _ _ _ rfl ⟨⟨_, [], rfl, rfl, rfl⟩, rfl⟩ (Ext.refl w))
                  have hw : IntKind.i64.wrap (p + q) = p + q := IntWalk.i64_in _ (by omega)
                  rw [IT.cl_spec hp, IT.cl_spec hq]
                  simp [binOp, Op.intArith, hw]
                · cases hz
              · rename_i q hp hq
                split at hz
                · rename_i ht
                  simp only [Bool.and_eq_true, beq_iff_eq] at ht
                  obtain ⟨rfl, g1, g2⟩ := ht
                  have f1 := of_decide_eq_true (Asm.find_spec hG g1)
                  have f2 := of_decide_eq_true (Asm.find_spec hG g2)
                  simp only [IT.den] at f1 f2
                  have hb := IT.cl_spec (E := E) hq
                  injection hz with hz
                  subst hz
                  refine hex (.int .i64 (s.den E + 1)) ?_ (hset _ _ _ rfl ⟨⟨_, [], rfl, (show [Value.int .i64 (s.den E + 1)] = [Value.int .i64 (s.den E + r.den E)] by rw [hb]), rfl⟩, rfl⟩ (Ext.refl w))
                  have hw : IntKind.i64.wrap (s.den E + 1) = s.den E + 1 := IntWalk.i64_in _ (by omega)
                  rw [hb]
                  simp [binOp, Op.intArith, hw]
                · obtain ⟨v', r1, r2⟩ := arE_sound (P := P) (E := E) (β := β) (w := w) t hz
                  exact hex v' r1 (hset _ _ _ rfl r2 (Ext.refl w))
              · obtain ⟨v', r1, r2⟩ := arE_sound (P := P) (E := E) (β := β) (w := w) t hz
                exact hex v' r1 (hset _ _ _ rfl r2 (Ext.refl w))
            · obtain ⟨v', r1, r2⟩ := arE_sound (P := P) (E := E) (β := β) (w := w) t hz
              exact hex v' r1 (hset _ _ _ rfl r2 (Ext.refl w))
        · cases hz
      · cases hz
    · cases h
  | unOp op t x =>
    simp only [opE] at h
    split at h
    · rename_i u hx
      obtain ⟨z, hz, rfl⟩ := Option.map_eq_some_iff.1 h
      have hxv := opnd_spec (E := E) (β := β) (w := w) hl hx
      unfold unE at hz
      split at hz
      · rename_i tt
        injection hz with hz
        subst hz
        obtain ⟨⟨l1, r1, h1, h2, h3⟩, _⟩ := hxv
        simp only [Chunk.holds] at h2
        simp only [chunks] at h3
        subst h2 h3
        injection h1 with h1
        refine wp_value (s := Op.unary .not (a.eval x)) rfl (v := .bool (!(tt.den E))) (w' := w) (by rw [h1]; simp [Op.unary]) ?_
        refine hset _ _ _ rfl ⟨⟨[.bool (!(tt.den E))], [], rfl, ?_, rfl⟩, rfl⟩ (Ext.refl w)
        show [Value.bool _] = [.bool (((BT.not tt).norm G).den E)]
        rw [BT.norm_den hG]
        rfl
      · rename_i zz
        split at hz
        · rename_i hb
          rw [Bool.and_eq_true, decide_eq_true_iff, decide_eq_true_iff] at hb
          injection hz with hz
          subst hz
          obtain ⟨⟨l1, r1, h1, h2, h3⟩, _⟩ := hxv
          simp only [Chunk.holds] at h2
          simp only [chunks] at h3
          subst h2 h3
          injection h1 with h1
          have hw : IntKind.i64.wrap (-zz) = -zz := IntWalk.i64_in _ (by omega)
          refine wp_value (s := Op.unary .neg (a.eval x)) rfl (v := .int .i64 (-zz)) (w' := w) (by rw [h1]; simp [Op.unary, Op.intArith, IT.den, hw]) ?_
          exact hset _ _ _ rfl ⟨⟨_, [], rfl, rfl, rfl⟩, rfl⟩ (Ext.refl w)
        · cases hz
      · rename_i tt _
        split at hz
        · rename_i hb
          injection hz with hz
          subst hz
          obtain ⟨⟨l1, r1, h1, h2, h3⟩, _⟩ := hxv
          simp only [Chunk.holds] at h2
          simp only [chunks] at h3
          subst h2 h3
          injection h1 with h1
          have b1 := tiny_spec (E := E) hb
          have hw : IntKind.i64.wrap (-(tt.den E)) = -(tt.den E) := IntWalk.i64_in _ (by omega)
          refine wp_value (s := Op.unary .neg (a.eval x)) rfl (v := .int .i64 (-(tt.den E))) (w' := w) (by rw [h1]; simp [Op.unary, Op.intArith, hw]) ?_
          exact hset _ _ _ rfl ⟨⟨_, [], rfl, rfl, rfl⟩, rfl⟩ (Ext.refl w)
        · obtain ⟨⟨l1, r1, h1, h2, h3⟩, _⟩ := hxv
          simp only [Chunk.holds] at h2
          simp only [chunks] at h3
          subst h2 h3
          injection h1 with h1
          refine wp_value (s := Op.unary .neg (a.eval x)) rfl (v := .int .i64 (IntKind.i64.wrap ((IT.a2 1 (.lit 0) tt).den E))) (w' := w) (by rw [h1]; rfl) (hset _ _ _ rfl (wrE_spec hz) (Ext.refl w))
      · rename_i k tt _ _
        obtain ⟨⟨l1, r1, h1, h2, h3⟩, _⟩ := hxv
        simp only [Chunk.holds] at h2
        simp only [chunks] at h3
        subst h2 h3
        injection h1 with h1
        refine wp_value (s := Op.unary .neg (a.eval x)) rfl (v := .int k (k.wrap ((IT.a2 1 (.lit 0) tt).den E))) (w' := w) (by rw [h1]; rfl) (hset _ _ _ rfl (wrE_spec hz) (Ext.refl w))
      · cases hz
    · cases h
  | convert s d x =>
    simp only [opE] at h
    split at h
    · rename_i u hx
      obtain ⟨z, hz, rfl⟩ := Option.map_eq_some_iff.1 h
      have hxv := opnd_spec (E := E) (β := β) (w := w) hl hx
      unfold cvtE at hz
      split at hz
      · rename_i k0 tt
        split at hz
        · rename_i k hk
          obtain ⟨⟨us, hu1⟩, hu2⟩ := hC.cnv s d k hk
          obtain ⟨⟨l1, r1, h1, h2, h3⟩, _⟩ := hxv
          simp only [Chunk.holds] at h2
          simp only [chunks] at h3
          subst h2 h3
          injection h1 with h1
          refine wp_value (s := convert s d (a.eval x)) rfl (v := .int k (k.wrap (tt.den E))) (w' := w) ?_ (hset _ _ _ rfl (wrE_spec hz) (Ext.refl w))
          rw [h1]
          unfold convert
          simp only [Sem.run_bind, run_underlying hu1, run_underlying hu2, Result.andThen_ok]
          rfl
        · cases hz
      · cases hz
    · cases h
  | fieldAddr t x k =>
    simp only [opE] at h
    split at h
    · rename_i y off d hx hd
      split at h
      rotate_left
      · cases h
      rename_i hlt
      injection h with h
      subst h
      have he : a.eval x = .pointer (some ⟨β y, off, none⟩) := (opndP_spec (E := E) (β := β) (w := w) hl hx).1
      refine wp_value (s := Instr.fieldAt t (a.eval x) k) rfl (by rw [he]; exact hC.fld t k d hd w _) ?_
      exact hset _ _ _ rfl (by rw [add_addr]; show _ = pv (β y) (off + d); rw [pv_lt hlt]) (Ext.refl w)
    · cases h
  | indexAddr t x i =>
    simp only [opE] at h
    obtain ⟨⟨y, off⟩, hy, rfl⟩ := Option.map_eq_some_iff.1 h
    obtain ⟨k1, k2, _⟩ := idxE_sound (E := E) (β := β) (w := w) hC hl hy
    refine wp_value (s := Instr.indexAt t (a.eval x) (a.eval i)) rfl k2 ?_
    exact hset _ _ _ rfl (by show _ = pv (β y) off; rw [pv_lt k1]) (Ext.refl w)
  | extract x i =>
    simp only [opE] at h
    split at h
    · rename_i l hx
      split at h
      · rename_i p hp
        injection h with h
        subst h
        obtain ⟨vs, he, ht⟩ := opnd_spec (E := E) (β := β) (w := w) hl hx
        have hti : ∀ (l : List (Bool × List Chunk)) (vs : List Value) (i : Nat) p, tupAll E w l vs → l[i]? = some p → ∃ v, vs[i]? = some v ∧ one E w p v := by
          intro l
          induction l with
          | nil => intro vs i p _ h; simp at h
          | cons q l ih =>
            intro vs i p ⟨v, r, hv, ho, hr⟩ hp
            subst hv
            match i, hp with
            | 0, hp => injection hp with hp; subst hp; exact ⟨v, rfl, ho⟩
            | i + 1, hp => exact ih r i p hr hp
        obtain ⟨v, hvi, ho⟩ := hti l vs i p ht hp
        refine wp_value (s := Instr.extract (a.eval x) i) rfl (v := v) (w' := w) (by rw [he]; simp [Instr.extract, hvi]) ?_
        exact hset _ _ _ rfl ho (Ext.refl w)
      · cases h
    · cases h
  | call c =>
    simp only [opE] at h
    obtain ⟨r, hr, rfl⟩ := Option.map_eq_some_iff.1 h
    unfold callE at hr
    split at hr
    · rename_i f hf
      split at hr
      · rename_i g hg
        split at hr
        · rename_i xs has
          obtain ⟨⟨l1, r1, h1, h2, h3⟩, _⟩ := opnd_spec (E := E) (β := β) (w := w) hl hg
          simp only [Chunk.holds] at h2
          simp only [chunks] at h3
          subst h2 h3
          injection h1 with h1
          obtain ⟨k1, k2⟩ := opnds_spec (E := E) (β := β) (w := w) hl has
          obtain ⟨fn, hfn, hname, hbody⟩ := hC.body g xs _ G r hr
          have hb2 : fn.body ≠ none := by intro e; rw [e] at hbody; cases hbody
          have hcall := hC.calls g xs _ G r hr hG β w _ hwk k1 k2 (fun i x off cs hi hm => by
            rw [List.getElem?_map, hi] at hm
            simp only [Option.map_some, Option.some.injEq, memOf] at hm
            split at hm
            · cases hm
            · exact (hv x cs hm).2)
          unfold Oper.wp
          have harr : (c.args.toList.map a.eval).toArray = c.args.map a.eval := by
            apply Array.toList_inj.1
            simp
          have hres : (execOp a.eval ⟨dst, .call c, ty, pos, after, guard⟩).run P w = .ok (.enter g (c.args.toList.map a.eval).toArray) w := by
            simp only [execOp, resolve, hf, h1, Deferred.ofValue]
            rw [harr]
            simp [invoke, callFunc, hfn, hname, hb2]
          rw [hres, Oper.upon_enter]
          refine hcall.mono ?_
          rintro e w' ⟨v, rfl, hv, ex⟩
          exact hset _ _ _ rfl hv ex
        · cases hr
      · cases hr
    · rename_i hf
      split at hr
      · rename_i t ts x hat har
        have hargs : c.args = #[x] := by apply Array.toList_inj.1; simpa using har
        have hat0 : c.argTypes[0]? = some t := by rw [← Array.getElem?_toList, hat]; rfl
        have fin : (∃ el, P.underlying t = some (.slice el)) → (∃ (ao : Option Addr) (n cp : Nat) (m : IT), a.eval x = .slice ao n cp ∧ r = .val false [.n .i64 m] ∧ m.den E = (n : Int)) → Oper.wp P ⟨dst, .call c, ty, pos, after, guard⟩ a w K Q := by
          rintro ⟨el, hel⟩ ⟨ao, n, cp, m, hev, rfl, hm⟩
          have hres : (execOp a.eval ⟨dst, .call c, ty, pos, after, guard⟩).run P w = .ok (.value (.int .i64 (n : Int))) w := by
            simp [execOp, resolve, hf, invoke, hargs, builtin, Builtin.len_, hat0, hev, run_underlying hel, goInt]
          unfold Oper.wp
          rw [hres]
          simp only [Oper.upon_value]
          exact hset _ _ _ rfl ⟨⟨_, [], rfl, congrArg (fun z => [Value.int .i64 z]) hm.symm, rfl⟩, rfl⟩ (Ext.refl w)
        split at hr
        · rename_i ch hx
          split at hr
          · rename_i hsl
            refine fin (hC.slc t hsl) ?_
            obtain ⟨⟨l1, r1, h1, h2, h3⟩, _⟩ := opnd_spec (E := E) (β := β) (w := w) hl hx
            simp only [chunks] at h3
            subst h3
            unfold lenE at hr
            split at hr
            · rename_i tt _
              injection hr with hr
              obtain ⟨u, rfl, ⟨ao, cp, rfl, _⟩, _⟩ := h2
              injection h1 with h1
              exact ⟨ao, _, cp, _, h1, hr.symm, rfl⟩
            · rename_i i
              injection hr with hr
              obtain ⟨u, rfl, ao, cp, rfl, _⟩ := h2
              injection h1 with h1
              exact ⟨ao, _, cp, _, h1, hr.symm, rfl⟩
            · injection hr with hr
              simp only [Chunk.holds] at h2
              subst h2
              injection h1 with h1
              exact ⟨none, 0, 0, _, h1, hr.symm, rfl⟩
            · cases hr
          · split at hr
            · rename_i hst
              obtain ⟨⟨l1, r1, h1, h2, h3⟩, _⟩ := opnd_spec (E := E) (β := β) (w := w) hl hx
              simp only [chunks] at h3
              subst h3
              have fin2 : ∀ (u : List UInt8) (m : IT), a.eval x = .string ⟨u.toArray⟩ → r = .val false [.n .i64 m] → m.den E = (u.length : Int) → Oper.wp P ⟨dst, .call c, ty, pos, after, guard⟩ a w K Q := by
                intro u m hev hrr hm
                subst hrr
                have hres : (execOp a.eval ⟨dst, .call c, ty, pos, after, guard⟩).run P w = .ok (.value (.int .i64 (u.length : Int))) w := by
                  have hsz : (⟨u.toArray⟩ : ByteArray).size = u.length := by simp [ByteArray.size]
                  simp [execOp, resolve, hf, invoke, hargs, builtin, Builtin.len_, hat0, hev, run_underlying (hC.strT t hst), goInt, hsz]
                unfold Oper.wp
                rw [hres]
                simp only [Oper.upon_value]
                exact hset _ _ _ rfl ⟨⟨_, [], rfl, congrArg (fun z => [Value.int .i64 z]) hm.symm, rfl⟩, rfl⟩ (Ext.refl w)
              unfold slenE at hr
              split at hr
              · injection hr with hr
                obtain ⟨rfl, _⟩ := h2
                injection h1 with h1
                exact fin2 _ _ h1 hr.symm rfl
              · injection hr with hr
                obtain ⟨rfl, _⟩ := h2
                injection h1 with h1
                exact fin2 _ _ h1 hr.symm rfl
              · cases hr
            · cases hr
        · rename_i y off hx
          split at hr
          · rename_i hb
            rw [Bool.and_eq_true, decide_eq_true_iff] at hb
            obtain ⟨e, he⟩ := Option.isSome_iff_exists.1 hb.2
            injection hr with hr
            have hv' : a.eval x = pv (β y) off := opnd_spec (E := E) (β := β) (w := w) hl hx
            refine fin ⟨e, hC.row t e he⟩ ⟨some ⟨β y, 0, none⟩, off - big, off - big, _, ?_, hr.symm, rfl⟩
            rw [hv']
            unfold pv
            rw [if_neg (by omega)]
          · cases hr
        · cases hr
      · cases hr
    · rename_i hf
      split at hr
      · rename_i t u x y hat har
        split at hr
        · rename_i ss l hx hy
          split at hr
          · rename_i hc
            simp only [Bool.and_eq_true, beq_iff_eq, decide_eq_true_iff] at hc
            obtain ⟨hsl, rfl, hl2⟩ := hc
            injection hr with hr
            subst hr
            have hargs : c.args = #[x, y] := by apply Array.toList_inj.1; simpa using har
            have hats : c.argTypes = #[t, t] := by apply Array.toList_inj.1; simpa using hat
            obtain ⟨⟨l1, r1, h1, h2, h3⟩, _⟩ := opnd_spec (E := E) (β := β) (w := w) hl hx
            simp only [Chunk.holds] at h2
            simp only [chunks] at h3
            subst h2 h3
            injection h1 with h1
            obtain ⟨⟨l2, r2, j1, ⟨v, rfl, j2, j4⟩, j3⟩, _⟩ := opnd_spec (E := E) (β := β) (w := w) hl hy
            simp only [chunks] at j3
            subst j3
            injection j1 with j1
            obtain ⟨z, w', k1, k2, k3⟩ := hC.apd t hsl ty w _ v (Nat.le_trans j4 hl2) j2
            have hres : (execOp a.eval ⟨dst, .call c, ty, pos, after, guard⟩).run P w = .ok (.value z) w' := by
              simp [execOp, resolve, hf, invoke, hargs, hats, builtin, h1, j1, k1]
            unfold Oper.wp
            rw [hres]
            simp only [Oper.upon_value]
            refine hset _ _ _ rfl ⟨⟨[z], [], rfl, ⟨z, rfl, k2, j4⟩, rfl⟩, ?_⟩ k3
            obtain ⟨ao, cap, rfl, _⟩ := k2
            rfl
          · cases hr
        · cases hr
      · cases hr
    · cases hr
  | _ => simp [opE] at h
end

end Go.Proofs.YtdblkeeicmncfaaGreat
end

/- ---- Sxe ---- -/
section
/-
  A walker that goes by reckoning: states, and one operation from state to state.
-/
set_option maxRecDepth 100000
namespace Go.Proofs.YtdblkeeicmncfaaGreat
open Go.RowKit

/-- What is known: slots, and variables (each by the slot that its address was first put into). -/
structure St where
  look : Nat → Option AV
  var : Nat → Option (List Chunk)
structure SH (E : Env) (n B : Nat) (w0 : World) (S : St) (β : Nat → Nat) (a : Act) (w : World) : Prop where
  sl : ∀ t x, S.look t = some x → x.holds E β w (a.tmps.getD t Go.undef)
  vr : ∀ x cs, S.var x = some cs → (x < ro → B ≤ β x) ∧ VarAt E w (β x) cs
  inj : ∀ x y, (S.var x).isSome = true → (S.var y).isSome = true → β x = β y → x = y
  wf : ∀ t x off, S.look t = some (.ptr x off) → (S.var x).isSome = true
  sz : a.tmps.size = n
  nd : a.defers = []
  hp : B ≤ w.heap.size
  bl : Below B w0 w
  nz : ∀ x cs, S.var x = some cs → sizes cs ≠ 0
def St.holds (E : Env) (n B : Nat) (w0 : World) (S : St) (a : Act) (w : World) : Prop := ∃ β, SH E n B w0 S β a w
def valE (d : Nat) : Eff → AV
  | .set x => x
  | .new _ _ off => .ptr d off
  | .put _ _ => .bad
def varEff (dst : Option Nat) : Eff → Option (Nat × List Chunk)
  | .set _ => none
  | .new _ cs _ => dst.map fun d => (d, cs)
  | .put x cs => some (x, cs)
def okE (n : Nat) (S : St) (dst : Option Nat) (e : Eff) : Bool :=
  (match dst with | some d => decide (d < n) | none => true) &&
  match e, dst with
  | .set _, _ => true
  | .new _ cs _, some d => (S.var d).isNone && !(sizes cs == 0)
  | .new _ _ _, none => false
  | .put x cs, none => (S.var x).isSome && (!(sizes cs == 0) && decide (x < ro))
  | .put _ _, some _ => false
def St.app (S : St) (dst : Option Nat) (e : Eff) : St where
  look t := if dst = some t then some (valE t e) else S.look t
  var x := match varEff dst e with
    | some (y, cs) => if x = y then some cs else S.var x
    | none => S.var x

theorem chunk_lt {E : Env} {w : World} {b : Nat} {cs : List Chunk} (h : VarAt E w b cs) (h0 : sizes cs ≠ 0) : b < w.heap.size := by
  obtain ⟨vs, h1, h2⟩ := h
  have hl := chunks_len h1
  match vs, hl with
  | [], hl => simp at hl; omega
  | v :: _, _ => exact lt_of_cell (h2 0 v rfl).1

section
variable {P : Program} {E : Env} {β : Nat → Nat} {n B : Nat} {w w' w0 : World} {a : Act} {G : Asm} {C : Cfg} {S : St}
theorem put_getD {a : Act} {d t : Nat} {v : Value} (h : d < a.tmps.size) : (a.put (some d) v).tmps.getD t Go.undef = if d = t then v else a.tmps.getD t Go.undef := by
  simp only [Act.put, Array.getD_eq_getD_getElem?, Array.getElem?_setIfInBounds]
  by_cases hd : d = t
  · subst hd
    rw [if_pos rfl, if_pos rfl, if_pos h]; rfl
  · rw [if_neg hd, if_neg hd]
theorem put_size {a : Act} {d : Option Nat} {v : Value} : (a.put d v).tmps.size = a.tmps.size := by cases d <;> simp [Act.put]
theorem put_defers {a : Act} {d : Option Nat} {v : Value} : (a.put d v).defers = a.defers := by cases d <;> simp [Act.put]
theorem app_set (h : SH E n B w0 S β a w) {dst : Option Nat} {x : AV} {v : Value} (hok : okE n S dst (.set x) = true) (hp : ∀ y off, x = .ptr y off → (S.var y).isSome = true) (hv : x.holds E β w' v) (e : Ext w w') : SH E n B w0 (S.app dst (.set x)) β (a.put dst v) w' := by
  have hk := Kp.of (B := B) e h.hp
  unfold okE at hok
  rw [Bool.and_eq_true] at hok
  obtain ⟨hok1, hok2⟩ := hok
  refine ⟨fun t y hy => ?_, fun y cs hy => ?_, fun y z hy hz => ?_, fun t t' off hy => ?_, by rw [put_size]; exact h.sz, by rw [put_defers]; exact h.nd, Nat.le_trans h.hp e.size, h.bl.trans (Below.mono e h.hp), fun y cs hy => h.nz y cs hy⟩
  · simp only [St.app] at hy
    cases dst with
    | none =>
      rw [if_neg (by simp)] at hy
      exact AV.keep hk (h.sl t y hy)
    | some d =>
      rw [put_getD (by rw [h.sz]; simpa using hok1)]
      by_cases hd : d = t
      · subst hd
        rw [if_pos rfl] at hy ⊢
        injection hy with hy
        subst hy
        exact hv
      · rw [if_neg (by simpa using hd)] at hy
        rw [if_neg hd]
        exact AV.keep hk (h.sl t y hy)
  · obtain ⟨k1, k2⟩ := h.vr y cs hy
    exact ⟨k1, k2.ext e⟩
  · exact h.inj y z hy hz
  · simp only [St.app] at hy
    by_cases hd : dst = some t
    · rw [if_pos hd] at hy
      injection hy with hy
      exact hp t' off hy
    · rw [if_neg hd] at hy
      exact h.wf t t' off hy
theorem app_new (h : SH E n B w0 S β a w) {d : Nat} (hd : d < n) (hno : S.var d = none) {t : TypeId} {cs : List Chunk} {of : Nat} {vs : List Value} (hcs : chunks E w cs vs) (h0 : sizes cs ≠ 0) :
    SH E n B w0 (S.app (some d) (.new t cs of)) (fun x => if x = d then w.heap.size else β x) (a.put (some d) (pv w.heap.size of)) (w.alloc (.cells vs.toArray t)) := by
  have ex := (Ext.refl w).alloc (.cells vs.toArray t)
  have hk := Kp.of (B := B) ex h.hp
  have hb : ∀ x, (S.var x).isSome = true → x ≠ d := fun x hx e => by subst e; rw [hno] at hx; cases hx
  have hlt : ∀ x, (S.var x).isSome = true → β x < w.heap.size := fun x hx => by
    obtain ⟨ds, hds⟩ := Option.isSome_iff_exists.1 hx
    exact chunk_lt (h.vr x ds hds).2 (h.nz x ds hds)
  have hav : ∀ {x : AV} {v : Value}, (∀ y off, x = .ptr y off → y ≠ d) → x.holds E β w v → x.holds E (fun x => if x = d then w.heap.size else β x) (w.alloc (.cells vs.toArray t)) v := by
    intro x v hx hv
    have hv' := AV.keep hk hv
    cases x with
    | ptr y off =>
      have e : v = pv (β y) off := hv'
      have hy := hx y off rfl
      show v = pv (if y = d then w.heap.size else β y) off
      rw [if_neg hy]
      exact e
    | _ => exact hv'
  have hsz : (w.alloc (.cells vs.toArray t)).heap.size = w.heap.size + 1 := World.size_alloc _ _
  have happ : ∀ y, (S.app (some d) (.new t cs of)).var y = if y = d then some cs else S.var y := fun y => rfl
  have hlk : ∀ s, (S.app (some d) (.new t cs of)).look s = if some d = some s then some (.ptr s of) else S.look s := fun s => rfl
  have hsome : ∀ y, ((S.app (some d) (.new t cs of)).var y).isSome = true → y ≠ d → (S.var y).isSome = true := fun y hy hd => by rwa [happ, if_neg hd] at hy
  refine ⟨fun s y hy => ?_, fun y ds hy => ?_, fun y z hy hz he => ?_, fun s y off hy => ?_, by rw [put_size]; exact h.sz, by rw [put_defers]; exact h.nd, by rw [hsz]; have := h.hp; omega, h.bl.trans (Below.mono ex h.hp), fun y ds hy => ?_⟩
  · rw [put_getD (by rw [h.sz]; exact hd)]
    rw [hlk] at hy
    by_cases hs : d = s
    · subst hs
      rw [if_pos rfl] at hy ⊢
      injection hy with hy
      subst hy
      show pv _ of = pv (if d = d then w.heap.size else β d) of
      rw [if_pos rfl]
    · rw [if_neg (by simpa using hs)] at hy
      rw [if_neg hs]
      refine hav (fun y' off e => ?_) (h.sl s y hy)
      subst e
      exact hb y' (h.wf s y' off hy)
  · rw [happ] at hy
    by_cases hs : y = d
    · subst hs
      rw [if_pos rfl] at hy ⊢
      injection hy with hy
      subst hy
      have hh : (w.alloc (.cells vs.toArray t)).heap[w.heap.size]? = some (.cells vs.toArray t (0, 0)) := heap_alloc_new w _
      refine ⟨fun _ => h.hp, vs, chunks_keep hk hcs, fun i v hi => ⟨?_, ?_⟩⟩
      · simp only [World.cell?, hh]
        simpa using hi
      · simp only [World.frozen?, hh]
        simp
    · rw [if_neg hs] at hy ⊢
      obtain ⟨k1, k2⟩ := h.vr y ds hy
      exact ⟨k1, k2.ext ex⟩
  · by_cases h1 : y = d
    · by_cases h2 : z = d
      · rw [h1, h2]
      · exfalso
        have := hlt z (hsome z hz h2)
        simp only [if_pos h1, if_neg h2] at he
        omega
    · by_cases h2 : z = d
      · exfalso
        have := hlt y (hsome y hy h1)
        simp only [if_neg h1, if_pos h2] at he
        omega
      · simp only [if_neg h1, if_neg h2] at he
        exact h.inj y z (hsome y hy h1) (hsome z hz h2) he
  · rw [happ]
    rw [hlk] at hy
    by_cases hs : some d = some s
    · rw [if_pos hs] at hy
      injection hy with hy
      injection hy with hy1 hy2
      injection hs with hs
      subst hs
      subst hy1
      rw [if_pos rfl]; rfl
    · rw [if_neg hs] at hy
      have := h.wf s y off hy
      rw [if_neg (hb y this)]
      exact this
  · rw [happ] at hy
    split at hy
    · injection hy with hy; subst hy; exact h0
    · exact h.nz y ds hy
theorem app_put (h : SH E n B w0 S β a w) {x : Nat} {cs : List Chunk} (hx : (S.var x).isSome = true) (h0 : sizes cs ≠ 0) (hk : Kp B w w') (hc : ∀ p : Addr, p.block ≠ β x → w'.cell? p = w.cell? p) (hf : ∀ p, w'.frozen? p = w.frozen? p) (hs : w'.heap.size = w.heap.size) (hva : VarAt E w' (β x) cs) :
    SH E n B w0 (S.app none (.put x cs)) β (a.put none Go.undef) w' := by
  have happ : ∀ y, (S.app none (.put x cs)).var y = if y = x then some cs else S.var y := fun y => rfl
  have hlk : ∀ s, (S.app none (.put x cs)).look s = S.look s := fun s => by simp only [St.app]; rw [if_neg (by simp)]
  have hsome : ∀ y, ((S.app none (.put x cs)).var y).isSome = true → (S.var y).isSome = true := fun y hy => by
    rw [happ] at hy
    split at hy
    · rename_i e; rw [e]; exact hx
    · exact hy
  obtain ⟨ox, hox⟩ := Option.isSome_iff_exists.1 hx
  refine ⟨fun s y hy => ?_, fun y ds hy => ?_, fun y z hy hz he => h.inj y z (hsome y hy) (hsome z hz) he, fun s y off hy => ?_, h.sz, h.nd, by rw [hs]; exact h.hp, h.bl.trans hk.below, fun y ds hy => ?_⟩
  · rw [hlk] at hy
    exact AV.keep hk (h.sl s y hy)
  · rw [happ] at hy
    split at hy
    · rename_i e
      subst e
      injection hy with hy
      subst hy
      exact ⟨(h.vr y ox hox).1, hva⟩
    · rename_i hne
      obtain ⟨k1, vs, k2, k3⟩ := h.vr y ds hy
      refine ⟨k1, vs, chunks_keep hk k2, fun i v hi => ?_⟩
      obtain ⟨j1, j2⟩ := k3 i v hi
      refine ⟨?_, by rw [hf]; exact j2⟩
      rw [hc ⟨β y, i, none⟩ (fun e => hne (h.inj y x (by rw [hy]; rfl) hx e))]
      exact j1
  · rw [hlk] at hy
    rw [happ]
    split
    · rfl
    · exact h.wf s y off hy
  · rw [happ] at hy
    split at hy
    · injection hy with hy; subst hy; exact h0
    · exact h.nz y ds hy
theorem opnd_ptr {look : Nat → Option AV} {o : Operand} {x off : Nat} (h : opnd look o = some (.ptr x off)) : ∃ t, look t = some (.ptr x off) := by
  cases o with
  | tmp t => exact ⟨t, h⟩
  | const v =>
    simp only [opnd] at h
    unfold avOf at h
    split at h
    · cases h
    · cases h
    · split at h <;> cases h
    · cases h
    · cases h
    · cases h
  | global g => cases h
  | func f => cases h
theorem opE_ptr (hC : CfgOK P E C) {look : Nat → Option AV} {var : Nat → Option (List Chunk)} {o : Op} {x off : Nat} (h : opE C G look var o = some (.set (.ptr x off))) : ∃ t off', look t = some (.ptr x off') := by
  cases o with
  | move y =>
    simp only [opE] at h
    obtain ⟨z, hz, he⟩ := Option.map_eq_some_iff.1 h
    injection he with he
    subst he
    obtain ⟨t, ht⟩ := opnd_ptr hz
    exact ⟨t, off, ht⟩
  | assign y =>
    simp only [opE] at h
    obtain ⟨z, hz, he⟩ := Option.map_eq_some_iff.1 h
    injection he with he
    subst he
    obtain ⟨t, ht⟩ := opnd_ptr hz
    exact ⟨t, off, ht⟩
  | pick c y z =>
    simp only [opE] at h
    split at h
    · split at h
      · obtain ⟨u, hz, he⟩ := Option.map_eq_some_iff.1 h
        injection he with he
        subst he
        obtain ⟨t, ht⟩ := opnd_ptr hz
        exact ⟨t, off, ht⟩
      · obtain ⟨u, hz, he⟩ := Option.map_eq_some_iff.1 h
        injection he with he
        subst he
        obtain ⟨t, ht⟩ := opnd_ptr hz
        exact ⟨t, off, ht⟩
      · cases h
    · cases h
  | alloc t => simp only [opE] at h; obtain ⟨z, hz, he⟩ := Option.map_eq_some_iff.1 h; cases he
  | box t y => simp only [opE] at h; split at h <;> cases h
  | build t ps =>
    simp only [opE] at h
    split at h
    · split at h
      · cases h
      · split at h
        · split at h <;> cases h
        · cases h
    · cases h
  | load t y =>
    simp only [opE] at h
    split at h
    · split at h
      · obtain ⟨z, hz, he⟩ := Option.map_eq_some_iff.1 h
        injection he with he
        subst he
        unfold loadE at hz
        split at hz
        · split at hz
          · unfold part1 at hz
            split at hz
            · cases hz
            · split at hz <;> cases hz
          · split at hz
            · split at hz <;> cases hz
            · cases hz
        · cases hz
      · cases h
    · cases h
  | store t y z =>
    simp only [opE] at h
    split at h
    · split at h
      · obtain ⟨z, hz, he⟩ := Option.map_eq_some_iff.1 h; cases he
      · cases h
    · cases h
  | binOp op t y z t2 =>
    simp only [opE] at h
    split at h
    · obtain ⟨u, hz, he⟩ := Option.map_eq_some_iff.1 h
      injection he with he
      subst he
      unfold binE at hz
      split at hz
      · split at hz
        · cases hz
        · cases hz
        · split at hz <;> cases hz
        · cases hz
      · split at hz
        · split at hz <;> cases hz
        · cases hz
      · split at hz
        · exact (shE_nptr hz).elim
        split at hz
        · split at hz
          · cases hz
          · split at hz
            · split at hz
              · cases hz
              · exact (arE_nptr hz).elim
            · split at hz
              · split at hz <;> cases hz
              · split at hz
                · cases hz
                · exact (arE_nptr hz).elim
              · exact (arE_nptr hz).elim
            · exact (arE_nptr hz).elim
        · cases hz
      · cases hz
    · cases h
  | unOp op t y =>
    simp only [opE] at h
    split at h
    · obtain ⟨u, hz, he⟩ := Option.map_eq_some_iff.1 h
      injection he with he
      subst he
      unfold unE at hz
      split at hz
      · cases hz
      · split at hz <;> cases hz
      · split at hz
        · cases hz
        · exact (wrE_nptr hz).elim
      · exact (wrE_nptr hz).elim
      · cases hz
    · cases h
  | convert s d y =>
    simp only [opE] at h
    split at h
    · obtain ⟨u, hz, he⟩ := Option.map_eq_some_iff.1 h
      injection he with he
      subst he
      unfold cvtE at hz
      split at hz
      · split at hz
        · exact (wrE_nptr hz).elim
        · cases hz
      · cases hz
    · cases h
  | fieldAddr t y k =>
    simp only [opE] at h
    split at h
    · rename_i y' off' d hy hd
      split at h
      rotate_left
      · cases h
      injection h with h
      injection h with h
      injection h with h1 h2
      subst h1
      unfold opndP at hy
      split at hy
      · rename_i y2 off2 hy2
        split at hy
        · injection hy with hy
          injection hy with e1 e2
          subst e1
          obtain ⟨t, ht⟩ := opnd_ptr hy2
          exact ⟨t, off2, ht⟩
        · cases hy
      · cases hy
    · cases h
  | indexAddr t y i =>
    simp only [opE] at h
    obtain ⟨⟨z, of⟩, hz, he⟩ := Option.map_eq_some_iff.1 h
    injection he with he
    injection he with e1 e2
    subst e1
    have go : ∃ off', opnd look y = some (.ptr z off') := by
      unfold idxE at hz
      split at hz
      · split at hz
        · split at hz
          · split at hz
            · rename_i y' off' bb size hx ha
              split at hz
              · injection hz with hz
                injection hz with e1 e2
                subst e1
                exact ⟨off', hx⟩
              · cases hz
            · cases hz
          · split at hz
            · split at hz
              · rename_i y' off' bb size hx ha
                split at hz
                · injection hz with hz
                  injection hz with e1 e2
                  subst e1
                  unfold opndP at hx
                  split at hx
                  · rename_i y2 off2 hy2
                    split at hx
                    · injection hx with hx
                      injection hx with e1 e2
                      subst e1
                      exact ⟨off2, hy2⟩
                    · cases hx
                  · cases hx
                · cases hz
              · cases hz
            · cases hz
        · cases hz
      · cases hz
    obtain ⟨off', ho⟩ := go
    obtain ⟨t, ht⟩ := opnd_ptr ho
    exact ⟨t, off', ht⟩
  | buildSlice t len ps =>
    simp only [opE] at h
    split at h
    · split at h
      · split at h
        · split at h <;> cases h
        · cases h
      · cases h
    · cases h
  | extract y i =>
    simp only [opE] at h
    split at h
    · split at h <;> cases h
    · cases h
  | call c =>
    simp only [opE] at h
    obtain ⟨u, hz, he⟩ := Option.map_eq_some_iff.1 h
    injection he with he
    subst he
    unfold callE at hz
    split at hz
    · split at hz
      · split at hz
        · exact absurd rfl (hC.nptr _ _ _ _ _ hz x off)
        · cases hz
      · cases hz
    · split at hz
      · split at hz
        · split at hz
          · rename_i ch _ _
            unfold lenE at hz
            split at hz <;> cases hz
          · split at hz
            · unfold slenE at hz
              split at hz <;> cases hz
            · cases hz
        · split at hz <;> cases hz
        · cases hz
      · cases hz
    · split at hz
      · split at hz
        · split at hz <;> cases hz
        · cases hz
      · cases hz
    · cases hz
  | _ => simp [opE] at h
theorem step_sound (hC : CfgAt P E C B w0) (hG : G.holds E) (h : SH E n B w0 S β a w) {o : Oper} {e : Eff} (ho : opE C G S.look S.var o.op = some e) (hok : okE n S o.dst e = true) (K : Act → World → Prop) (Q : Exit → Act → World → Prop)
    (hK : ∀ a' w', (S.app o.dst e).holds E n B w0 a' w' → K a' w') : Oper.wp P o a w K Q := by
  refine opE_sound hC.ok (hC.wk w h.bl) hG h.sl h.vr ho K Q ?_ ?_ ?_ ?_
  · rintro x cs rfl
    unfold okE at hok
    generalize o.dst = dst at *
    cases dst with
    | some d => simp at hok
    | none =>
      simp only [Bool.and_eq_true, Bool.not_eq_true', beq_eq_false_iff_ne, decide_eq_true_iff] at hok
      exact hok.2.2.2
  · rintro x v w' rfl hv ex
    refine hK _ _ ⟨β, app_set h hok (fun y off hy => ?_) hv ex⟩
    subst hy
    obtain ⟨t, off', ht⟩ := opE_ptr hC.ok ho
    exact h.wf t y off' ht
  · rintro t cs vs off rfl hcs
    unfold okE at hok
    generalize o.dst = dst at *
    cases dst with
    | none => simp at hok
    | some d =>
      simp only [Bool.and_eq_true, decide_eq_true_iff, Bool.not_eq_true', beq_eq_false_iff_ne] at hok
      exact hK _ _ ⟨_, app_new h hok.1 (by simpa using hok.2.1) hcs hok.2.2⟩
  · rintro x cs w' rfl hk hc hf hs hva
    unfold okE at hok
    generalize o.dst = dst at *
    cases dst with
    | some d => simp at hok
    | none =>
      simp only [Bool.and_eq_true, Bool.not_eq_true', beq_eq_false_iff_ne, decide_eq_true_iff] at hok
      exact hK _ _ ⟨β, app_put h hok.2.1 hok.2.2.1 hk hc hf hs hva⟩
end

end Go.Proofs.YtdblkeeicmncfaaGreat
end

/- ---- Sxf ---- -/
section
/-
  A walker that goes by reckoning: regions, those that draw their order too.
-/
set_option maxRecDepth 100000
namespace Go.Proofs.YtdblkeeicmncfaaGreat
open Go.RowKit

/-- An operation with its guard. -/
def effE (C : Cfg) (G : Asm) (n : Nat) (ops : Array Oper) (S : St) (o : Oper) : Option Eff :=
  match o.guard with
  | none => match opE C G S.look S.var o.op with
    | some e => if okE n S o.dst e then some e else none
    | none => none
  | some (j, want) => match (ops[j]?).bind (·.dst) with
    | some t => match S.look t with
      | some (.val false [.b tt]) => match tt.ev G with
        | some b => if b == want then
            match opE C G S.look S.var o.op with
            | some e => if okE n S o.dst e then some e else none
            | none => none
          else if okE n S o.dst (.set .bad) then some (.set .bad) else none
        | none => none
      | some .bad => if okE n S o.dst (.set .bad) then some (.set .bad) else none
      | _ => none
    | none => none
section
variable {P : Program} {E : Env} {n B : Nat} {w w0 : World} {a : Act} {G : Asm} {C : Cfg} {S : St}
theorem effE_sound (hC : CfgAt P E C B w0) (hG : G.holds E) (h : S.holds E n B w0 a w) {ops : Array Oper} {o : Oper} {e : Eff} (ho : effE C G n ops S o = some e) (K : Act → World → Prop) (Q : Exit → Act → World → Prop)
    (hK : ∀ a' w', (S.app o.dst e).holds E n B w0 a' w' → K a' w') : if Region.wanted o (yielded ops a.tmps) = true then Oper.wp P o a w K Q else K (a.put o.dst Go.undef) w := by
  obtain ⟨β, h⟩ := h
  have go : (match opE C G S.look S.var o.op with | some e => if okE n S o.dst e then some e else none | none => none) = some e → Oper.wp P o a w K Q := by
    intro hh
    split at hh
    · rename_i e' he'
      split at hh
      · rename_i hok
        injection hh with hh
        subst hh
        exact step_sound hC hG h he' hok K Q hK
      · cases hh
    · cases hh
  unfold effE at ho
  split at ho
  · rename_i hg
    have hw : Region.wanted o (yielded ops a.tmps) = true := by simp [Region.wanted, hg]
    rw [if_pos hw]
    exact go ho
  · rename_i j want hg
    split at ho
    · rename_i t ht
      split at ho
      · rename_i tt hl
        split at ho
        · rename_i b hb
          have hv := h.sl t _ hl
          obtain ⟨⟨l1, r1, h1, h2, h3⟩, _⟩ := hv
          simp only [Chunk.holds] at h2
          simp only [chunks] at h3
          subst h2 h3
          injection h1 with h1
          rw [BT.ev_spec hG hb] at h1
          have hy : yielded ops a.tmps j = some b := by
            have ha : a.tmps[t]? = some (.bool b) := by
              rw [Array.getD_eq_getD_getElem?] at h1
              cases hh : a.tmps[t]? with
              | none => rw [hh] at h1; simp [Go.undef] at h1
              | some u => rw [hh] at h1; simp at h1; rw [h1]
            simp only [yielded, ht, Option.bind_some, ha]
          split at ho
          · rename_i hbw
            have hbe : b = want := by simpa using hbw
            have hw : Region.wanted o (yielded ops a.tmps) = true := by simp [Region.wanted, hg, hy, hbe]
            rw [if_pos hw]
            exact go ho
          · rename_i hbw
            have hw : ¬ Region.wanted o (yielded ops a.tmps) = true := by
              simp only [Region.wanted, hg, hy]
              intro hh
              exact hbw (by simpa using hh)
            rw [if_neg hw]
            split at ho
            · rename_i hok
              injection ho with ho
              subst ho
              exact hK _ _ ⟨β, app_set h hok (fun y off e => by cases e) (show Go.undef = Go.undef from rfl) (Ext.refl w)⟩
            · cases ho
        · cases ho
      · rename_i hl
        have hv : a.tmps.getD t Go.undef = Go.undef := h.sl t _ hl
        have hy : yielded ops a.tmps j = none := by
          rw [Array.getD_eq_getD_getElem?] at hv
          cases hh : a.tmps[t]? with
          | none => simp only [yielded, ht, Option.bind_some, hh]
          | some u =>
            rw [hh] at hv
            simp only [Option.getD_some] at hv
            subst hv
            simp only [yielded, ht, Option.bind_some, hh, Go.undef]
        have hw : ¬ Region.wanted o (yielded ops a.tmps) = true := by
          simp [Region.wanted, hg, hy]
        rw [if_neg hw]
        split at ho
        · rename_i hok
          injection ho with ho
          subst ho
          exact hK _ _ ⟨β, app_set h hok (fun y off e => by cases e) (show Go.undef = Go.undef from rfl) (Ext.refl w)⟩
        · cases ho
      · cases ho
    · cases ho

/-- A region in the order of its text. -/
def runE (C : Cfg) (G : Asm) (n : Nat) (ops : Array Oper) : List Oper → St → Option St
  | [], S => some S
  | o :: l, S => match effE C G n ops S o with
    | some e => runE C G n ops l (S.app o.dst e)
    | none => none
theorem runE_sound (hC : CfgAt P E C B w0) (hG : G.holds E) {ops : Array Oper} {Q : Exit → Act → World → Prop} : ∀ (l : List Oper) (S S' : St) (a : Act) (w : World), S.holds E n B w0 a w → runE C G n ops l S = some S' →
    (∀ a' w', S'.holds E n B w0 a' w' → Q .normal a' w') → wpList P ops Q l a w
  | [], S, S', a, w, h, hr, hQ => by
    simp only [runE] at hr
    injection hr with hr
    subst hr
    exact wpList_nil (hQ a w h)
  | o :: l, S, S', a, w, h, hr, hQ => by
    unfold runE at hr
    split at hr
    · rename_i e he
      refine wpList_step fun K hK => ?_
      exact effE_sound hC hG h he K Q (fun a' w' h' => hK _ _ (runE_sound hC hG l _ S' a' w' h' hr hQ))
    · cases hr

/-- What an operation of a region reads. -/
def tm : Operand → List Nat
  | .tmp t => [t]
  | _ => []
def rdOp : Op → List Nat
  | .move x => tm x
  | .assign x => tm x
  | .pick c x y => tm c ++ (tm x ++ tm y)
  | .box _ x => tm x
  | .build _ ps => ps.toList.flatMap fun p => tm p.2
  | .buildSlice _ _ ps => ps.toList.flatMap fun p => tm p.2
  | .load _ x => tm x
  | .store _ x y => tm x ++ tm y
  | .binOp _ _ x y _ => tm x ++ tm y
  | .unOp _ _ x => tm x
  | .convert _ _ x => tm x
  | .fieldAddr _ x _ => tm x
  | .indexAddr _ x i => tm x ++ tm i
  | .extract x _ => tm x
  | .call c => (match c.callee with | .value f => tm f | _ => []) ++ c.args.toList.flatMap tm
  | _ => []
def rdS (ops : Array Oper) (o : Oper) : List Nat :=
  rdOp o.op ++ match o.guard with
    | none => []
    | some (j, _) => match (ops[j]?).bind (·.dst) with | some t => [t] | none => []
def memV : AV → List Nat
  | .ptr x off => if off < big then [] else [x]
  | _ => []
def rdV (S : St) (o : Oper) : List Nat :=
  match o.op with
  | .load _ x => match opndP S.look x with | some (y, _) => [y] | _ => []
  | .store _ x _ => match opndP S.look x with | some (y, _) => [y] | _ => []
  | .buildSlice _ _ _ => match o.dst with | some d => [d] | none => []
  | .call c => match opnds S.look c.args.toList with | some xs => xs.flatMap memV | none => []
  | .alloc _ => match o.dst with | some d => [d] | none => []
  | .box _ _ => match o.dst with | some d => [d] | none => []
  | _ => []
theorem opnd_congr {f g : Nat → Option AV} {x : Operand} (h : ∀ t ∈ tm x, f t = g t) : opnd f x = opnd g x := by
  cases x with
  | tmp t => exact h t (by simp [tm])
  | _ => rfl
theorem opndP_congr {f g : Nat → Option AV} {x : Operand} (h : ∀ t ∈ tm x, f t = g t) : opndP f x = opndP g x := by
  unfold opndP
  rw [opnd_congr h]
theorem memOf_congr {f g : Nat → Option (List Chunk)} : ∀ {xs : List AV}, (∀ x ∈ xs.flatMap memV, f x = g x) → xs.map (memOf f) = xs.map (memOf g)
  | [], _ => rfl
  | x :: xs, h => by
    rw [List.map_cons, List.map_cons, memOf_congr (xs := xs) (fun y hy => h y (by rw [List.flatMap_cons]; exact List.mem_append_right _ hy))]
    congr 1
    cases x with
    | ptr y off =>
      simp only [memOf]
      split
      · rfl
      · rename_i hlt
        exact h y (by rw [List.flatMap_cons]; exact List.mem_append_left _ (by simp [memV, hlt]))
    | _ => rfl
theorem opnds_congr {f g : Nat → Option AV} : ∀ {xs : List Operand}, (∀ t ∈ xs.flatMap tm, f t = g t) → opnds f xs = opnds g xs
  | [], _ => rfl
  | x :: xs, h => by
    unfold opnds
    rw [opnd_congr (x := x) (fun t ht => h t (by simp [ht])), opnds_congr (xs := xs) (fun t ht => h t (by rw [List.flatMap_cons]; exact List.mem_append_right _ ht))]
theorem partsE_congr {f g : Nat → Option AV} : ∀ {ps : List (Nat × Operand)} {fs : List (Nat × Nat)} {k b : Nat}, (∀ t ∈ ps.flatMap (fun p => tm p.2), f t = g t) → partsE f ps fs k b = partsE g ps fs k b
  | [], [], _, _, _ => rfl
  | [], _ :: _, _, _, _ => rfl
  | _ :: _, [], _, _, _ => rfl
  | (i, x) :: ps, (off, size) :: fs, k, b, h => by
    unfold partsE
    rw [opnd_congr (x := x) (fun t ht => h t (by simp [ht])), partsE_congr (ps := ps) (fs := fs) (k := k + 1) (b := b + size) (fun t ht => h t (by rw [List.flatMap_cons]; exact List.mem_append_right _ ht))]
theorem partsZ_congr {f g : Nat → Option AV} : ∀ {fs : List (Nat × Nat)} {ps : List (Nat × Operand)} {zs : List Chunk} {k b : Nat}, (∀ t ∈ ps.flatMap (fun p => tm p.2), f t = g t) → partsZ f fs ps zs k b = partsZ g fs ps zs k b
  | [], [], _, _, _, _ => rfl
  | _ :: _, [], _, _, _, _ => rfl
  | [], _ :: _, _, _, _, _ => rfl
  | (off, size) :: fs, (i, x) :: ps, zs, k, b, h => by
    simp only [partsZ]
    split
    · rw [opnd_congr (x := x) (fun t ht => h t (by simp [ht])), partsZ_congr (fs := fs) (ps := (i, x) :: ps) h]
      split
      · split
        · split
          · rw [partsZ_congr (fs := fs) (ps := ps) (fun t ht => h t (by rw [List.flatMap_cons]; exact List.mem_append_right _ ht))]
          · rfl
        · rfl
      · rfl
    · rfl
theorem opE_congr {S S' : St} {o : Oper} (hs : ∀ t ∈ rdOp o.op, S.look t = S'.look t) (hv : ∀ x ∈ rdV S o, S.var x = S'.var x) : opE C G S.look S.var o.op = opE C G S'.look S'.var o.op := by
  obtain ⟨dst, op, ty, pos, after, guard⟩ := o
  cases op with
  | move x => simp only [opE]; rw [opnd_congr hs]
  | assign x => simp only [opE]; rw [opnd_congr hs]
  | pick c x y =>
    simp only [rdOp, List.mem_append] at hs
    simp only [opE]
    rw [opnd_congr (x := c) (fun t ht => hs t (.inl ht)), opnd_congr (x := x) (fun t ht => hs t (.inr (.inl ht))), opnd_congr (x := y) (fun t ht => hs t (.inr (.inr ht)))]
  | alloc t => rfl
  | box t x => simp only [opE]; rw [opnd_congr hs]
  | build t ps =>
    have e : ∀ fs zs, partsB S.look fs ps.toList zs = partsB S'.look fs ps.toList zs := fun fs zs => by
      unfold partsB
      rw [partsE_congr hs, partsZ_congr hs]
    simp only [opE, e]
  | buildSlice t len ps =>
    have e : ∀ fs k b, partsE S.look ps.toList fs k b = partsE S'.look ps.toList fs k b := fun fs k b => partsE_congr hs
    simp only [opE, e]
  | load t x =>
    have e := opndP_congr (x := x) hs
    simp only [opE, rdV] at hv ⊢
    rw [← e]
    split
    · rename_i y off hy
      rw [hy] at hv
      rw [hv y (by simp)]
    · rfl
  | store t x y =>
    simp only [rdOp, List.mem_append] at hs
    have e := opndP_congr (f := S.look) (g := S'.look) (x := x) (fun t ht => hs t (.inl ht))
    have e2 := opnd_congr (f := S.look) (g := S'.look) (x := y) (fun t ht => hs t (.inr ht))
    simp only [opE, rdV] at hv ⊢
    rw [← e, ← e2]
    split
    · rename_i z off b cs hz hc
      rw [hz] at hv
      rw [hv z (by simp)]
    · rfl
  | binOp op t x y t2 =>
    simp only [rdOp, List.mem_append] at hs
    simp only [opE]
    rw [opnd_congr (x := x) (fun t ht => hs t (.inl ht)), opnd_congr (x := y) (fun t ht => hs t (.inr ht))]
  | unOp op t x => simp only [opE]; rw [opnd_congr hs]
  | convert s d x => simp only [opE]; rw [opnd_congr hs]
  | fieldAddr t x k => simp only [opE]; rw [opndP_congr hs]
  | indexAddr t x i =>
    simp only [rdOp, List.mem_append] at hs
    simp only [opE, idxE]
    rw [opnd_congr (x := i) (fun t ht => hs t (.inr ht)), opnd_congr (x := x) (fun t ht => hs t (.inl ht)), opndP_congr (x := x) (fun t ht => hs t (.inl ht))]
  | extract x i => simp only [opE]; rw [opnd_congr hs]
  | call c =>
    simp only [rdOp, List.mem_append] at hs
    simp only [opE, callE, rdV] at hv ⊢
    congr 1
    split
    · rename_i f hf
      rw [hf] at hs
      rw [← opnd_congr (f := S.look) (x := f) (fun t ht => hs t (.inl ht)), ← opnds_congr (f := S.look) (xs := c.args.toList) (fun t ht => hs t (.inr ht))]
      split
      · split
        · rename_i xs hxs
          rw [hxs] at hv
          rw [memOf_congr (f := S.var) (g := S'.var) hv]
        · rfl
      · rfl
    · split
      · rename_i x _ har
        rw [opnd_congr (x := x) (fun t ht => hs t (.inr (by rw [har]; simpa using ht)))]
      · rfl
    · split
      · rename_i x y _ har
        rw [opnd_congr (x := x) (fun t ht => hs t (.inr (by rw [har]; simp [ht]))), opnd_congr (x := y) (fun t ht => hs t (.inr (by rw [har]; simp [ht])))]
      · rfl
    · rfl
  | _ => rfl
theorem okE_congr {S S' : St} {o : Oper} {e : Eff} (he : opE C G S.look S.var o.op = some e ∨ e = .set .bad) (hv : ∀ x ∈ rdV S o, S.var x = S'.var x) : okE n S o.dst e = okE n S' o.dst e := by
  rcases he with he | rfl
  · cases e with
    | set x => rfl
    | new t cs off =>
      obtain ⟨dst, op, ty, pos, after, guard⟩ := o
      unfold okE
      cases dst with
      | none => rfl
      | some d =>
        have : S.var d = S'.var d := by
          cases op with
          | alloc t => exact hv d (by simp [rdV])
          | box t x => exact hv d (by simp [rdV])
          | buildSlice t len ps => exact hv d (by simp [rdV])
          | move x => simp [opE] at he
          | assign x => simp [opE] at he
          | pick c x y =>
            simp only [opE] at he
            split at he
            · split at he
              · obtain ⟨_, _, h⟩ := Option.map_eq_some_iff.1 he; cases h
              · obtain ⟨_, _, h⟩ := Option.map_eq_some_iff.1 he; cases h
              · cases he
            · cases he
          | build t ps =>
            simp only [opE] at he
            split at he
            · split at he
              · cases he
              · split at he
                · split at he <;> cases he
                · cases he
            · cases he
          | load t x =>
            simp only [opE] at he
            split at he
            · split at he
              · obtain ⟨_, _, h⟩ := Option.map_eq_some_iff.1 he; cases h
              · cases he
            · cases he
          | store t x y =>
            simp only [opE] at he
            split at he
            · split at he
              · obtain ⟨_, _, h⟩ := Option.map_eq_some_iff.1 he; cases h
              · cases he
            · cases he
          | binOp op t x y t2 =>
            simp only [opE] at he
            split at he
            · obtain ⟨_, _, h⟩ := Option.map_eq_some_iff.1 he; cases h
            · cases he
          | unOp op t x =>
            simp only [opE] at he
            split at he
            · obtain ⟨_, _, h⟩ := Option.map_eq_some_iff.1 he; cases h
            · cases he
          | convert s d x =>
            simp only [opE] at he
            split at he
            · obtain ⟨_, _, h⟩ := Option.map_eq_some_iff.1 he; cases h
            · cases he
          | indexAddr t x i =>
            simp only [opE] at he
            obtain ⟨_, _, h⟩ := Option.map_eq_some_iff.1 he
            cases h
          | fieldAddr t x k =>
            simp only [opE] at he
            split at he
            · split at he <;> cases he
            · cases he
          | extract x i =>
            simp only [opE] at he
            split at he
            · split at he <;> cases he
            · cases he
          | call c =>
            simp only [opE] at he
            obtain ⟨_, _, h⟩ := Option.map_eq_some_iff.1 he
            cases h
          | _ => simp [opE] at he
        simp only [this]
    | put x cs =>
      obtain ⟨dst, op, ty, pos, after, guard⟩ := o
      unfold okE
      cases dst with
      | some d => rfl
      | none =>
        have : S.var x = S'.var x := by
          cases op with
          | store t y z =>
            simp only [opE] at he
            split at he
            · rename_i y' off b cs' hy hz
              split at he
              · obtain ⟨_, _, h⟩ := Option.map_eq_some_iff.1 he
                injection h with h
                subst h
                exact hv y' (by simp [rdV, hy])
              · cases he
            · cases he
          | move x => simp [opE] at he
          | assign x => simp [opE] at he
          | alloc t => simp [opE] at he
          | box t x =>
            simp only [opE] at he
            split at he <;> cases he
          | pick c x y =>
            simp only [opE] at he
            split at he
            · split at he
              · obtain ⟨_, _, h⟩ := Option.map_eq_some_iff.1 he; cases h
              · obtain ⟨_, _, h⟩ := Option.map_eq_some_iff.1 he; cases h
              · cases he
            · cases he
          | build t ps =>
            simp only [opE] at he
            split at he
            · split at he
              · cases he
              · split at he
                · split at he <;> cases he
                · cases he
            · cases he
          | load t x =>
            simp only [opE] at he
            split at he
            · split at he
              · obtain ⟨_, _, h⟩ := Option.map_eq_some_iff.1 he; cases h
              · cases he
            · cases he
          | binOp op t x y t2 =>
            simp only [opE] at he
            split at he
            · obtain ⟨_, _, h⟩ := Option.map_eq_some_iff.1 he; cases h
            · cases he
          | unOp op t x =>
            simp only [opE] at he
            split at he
            · obtain ⟨_, _, h⟩ := Option.map_eq_some_iff.1 he; cases h
            · cases he
          | convert s d x =>
            simp only [opE] at he
            split at he
            · obtain ⟨_, _, h⟩ := Option.map_eq_some_iff.1 he; cases h
            · cases he
          | indexAddr t x i =>
            simp only [opE] at he
            obtain ⟨_, _, h⟩ := Option.map_eq_some_iff.1 he
            cases h
          | fieldAddr t x k =>
            simp only [opE] at he
            split at he
            · split at he <;> cases he
            · cases he
          | extract x i =>
            simp only [opE] at he
            split at he
            · split at he <;> cases he
            · cases he
          | call c =>
            simp only [opE] at he
            obtain ⟨_, _, h⟩ := Option.map_eq_some_iff.1 he
            cases h
          | buildSlice t len ps =>
            simp only [opE] at he
            split at he
            · split at he
              · split at he
                · split at he <;> cases he
                · cases he
              · cases he
            · cases he
          | _ => simp [opE] at he
        simp only [this]
  · rfl
theorem effE_congr {S S' : St} {ops : Array Oper} {o : Oper} {e : Eff} (hs : ∀ t ∈ rdS ops o, S.look t = S'.look t) (hv : ∀ x ∈ rdV S o, S.var x = S'.var x) (h : effE C G n ops S o = some e) : effE C G n ops S' o = some e := by
  have ho := opE_congr (C := C) (G := G) (fun t ht => hs t (List.mem_append_left _ ht)) hv
  have go : (match opE C G S.look S.var o.op with | some e => if okE n S o.dst e then some e else none | none => none) = some e → (match opE C G S'.look S'.var o.op with | some e => if okE n S' o.dst e then some e else none | none => none) = some e := by
    intro hh
    rw [← ho]
    split at hh
    · rename_i e' he'
      rw [okE_congr (n := n) (.inl he') hv] at hh
      exact hh
    · cases hh
  unfold effE at h ⊢
  cases hg : o.guard with
  | none =>
    rw [hg] at h
    exact go h
  | some p =>
    obtain ⟨j, want⟩ := p
    rw [hg] at h
    simp only at h ⊢
    cases ht : (ops[j]?).bind (·.dst) with
    | none => rw [ht] at h; cases h
    | some t =>
      rw [ht] at h
      simp only at h ⊢
      have hst : S.look t = S'.look t := hs t (by unfold rdS; rw [hg]; simp [ht])
      rw [← hst]
      split at h
      · rename_i tt hl
        split at h
        · rename_i b hb
          split at h
          · rename_i hbw
            rw [if_pos hbw]
            exact go h
          · rename_i hbw
            rw [if_neg hbw]
            rw [← okE_congr (C := C) (G := G) (n := n) (S := S) (.inr rfl) hv]
            exact h
        · cases h
      · rw [← okE_congr (C := C) (G := G) (n := n) (S := S) (.inr rfl) hv]
        exact h
      · cases h
end

end Go.Proofs.YtdblkeeicmncfaaGreat
end

/- ---- Sxg ---- -/
section
/-
  A walker that goes by reckoning: regions that draw their order.
-/
set_option maxRecDepth 100000
namespace Go.Proofs.YtdblkeeicmncfaaGreat
open Go.RowKit

/-- An operation of a region: what it writes, what it reads, and what goes ahead of it. -/
structure Rec where
  dst : Option Nat
  eff : Eff
  rs : List Nat
  rv : List Nat
  ps : List Nat
def Rec.wV (r : Rec) : Option Nat := (varEff r.dst r.eff).map (·.1)
def recsE (C : Cfg) (G : Asm) (n : Nat) (ops : Array Oper) : List Oper → St → Option (List Rec × St)
  | [], S => some ([], S)
  | o :: l, S => match effE C G n ops S o with
    | some e => match recsE C G n ops l (S.app o.dst e) with
      | some (rs, S') => some (⟨o.dst, e, rdS ops o, rdV S o, preds o⟩ :: rs, S')
      | none => none
    | none => none
def stF (s : Nat → Bool) : Nat → List Rec → St → St
  | _, [], S => S
  | i, r :: rs, S => stF s (i + 1) rs (if s i then S.app r.dst r.eff else S)
def noconf (a b : Rec) : Bool :=
  (match b.dst with | some d => !a.rs.contains d | none => true) && ((match a.dst with | some d => !b.rs.contains d && !(b.dst == some d) | none => true) &&
  ((match b.wV with | some x => !a.rv.contains x | none => true) && (match a.wV with | some x => !b.rv.contains x && !(b.wV == some x) | none => true)))
def okFrom (i : Nat) (a : Rec) : List Rec → Bool
  | [] => true
  | b :: r => (b.ps.contains i || noconf a b) && okFrom i a r
def okPairs : Nat → List Rec → Bool
  | _, [] => true
  | i, a :: r => okFrom i a r && okPairs (i + 1) r
theorem okFrom_get {i : Nat} {a : Rec} : ∀ {l : List Rec}, okFrom i a l = true → ∀ (k : Nat) (b : Rec), l[k]? = some b → i ∈ b.ps ∨ noconf a b = true
  | [], _, _, _, h => by simp at h
  | c :: l, h, k, b, hb => by
    simp only [okFrom, Bool.and_eq_true, Bool.or_eq_true, List.contains_iff_mem] at h
    match k, hb with
    | 0, hb => injection hb with hb; subst hb; exact h.1
    | k + 1, hb => exact okFrom_get h.2 k b hb
theorem okPairs_get : ∀ {l : List Rec} {j : Nat}, okPairs j l = true → ∀ (i k : Nat) (a b : Rec), i < k → l[i]? = some a → l[k]? = some b → j + i ∈ b.ps ∨ noconf a b = true
  | [], _, _, _, _, _, _, _, h, _ => by simp at h
  | c :: l, j, h, i, k, a, b, hik, ha, hb => by
    simp only [okPairs, Bool.and_eq_true] at h
    match k, hik, hb with
    | k + 1, hik, hb =>
      match i, ha with
      | 0, ha => injection ha with ha; subst ha; exact okFrom_get h.1 k b hb
      | i + 1, ha =>
        have := okPairs_get h.2 i k a b (by omega) ha hb
        rwa [show j + 1 + i = j + (i + 1) by omega] at this

theorem St.ext' {S S' : St} (h1 : ∀ t, S.look t = S'.look t) (h2 : ∀ x, S.var x = S'.var x) : S = S' := by
  obtain ⟨a, b⟩ := S
  obtain ⟨c, d⟩ := S'
  obtain rfl : a = c := funext h1
  obtain rfl : b = d := funext h2
  rfl
theorem stF_congr {s s' : Nat → Bool} : ∀ (rs : List Rec) (i : Nat) (S : St), (∀ k, k < rs.length → s (i + k) = s' (i + k)) → stF s i rs S = stF s' i rs S
  | [], _, _, _ => rfl
  | r :: rs, i, S, h => by
    unfold stF
    rw [show s i = s' i from h 0 (by simp)]
    exact stF_congr rs (i + 1) _ (fun k hk => by
      have := h (k + 1) (by simpa using hk)
      rwa [show i + (k + 1) = i + 1 + k by omega] at this)
theorem stF_shift {s : Nat → Bool} : ∀ (rs : List Rec) (i : Nat) (S : St), stF s (i + 1) rs S = stF (fun k => s (k + 1)) i rs S
  | [], _, _ => rfl
  | r :: rs, i, S => by
    unfold stF
    exact stF_shift rs (i + 1) _
theorem stF_none {s : Nat → Bool} : ∀ (rs : List Rec) (i : Nat) (S : St), (∀ k, s k = false) → stF s i rs S = S
  | [], _, _, _ => rfl
  | r :: rs, i, S, h => by
    unfold stF
    rw [h i]
    exact stF_none rs (i + 1) S h
theorem stF_look {s s' : Nat → Bool} {t : Nat} : ∀ (rs : List Rec) (i : Nat) (S S' : St), S.look t = S'.look t → (∀ k r, rs[k]? = some r → r.dst = some t → s (i + k) = s' (i + k)) → (stF s i rs S).look t = (stF s' i rs S').look t
  | [], _, _, _, h, _ => h
  | r :: rs, i, S, S', h, hk => by
    unfold stF
    refine stF_look rs (i + 1) _ _ ?_ (fun k r' hr hd => by
      have := hk (k + 1) r' hr hd
      rwa [show i + (k + 1) = i + 1 + k by omega] at this)
    by_cases hd : r.dst = some t
    · rw [show s i = s' i from hk 0 r rfl hd]
      split
      · simp only [St.app, hd, if_true]
      · exact h
    · have e : ∀ U : St, (U.app r.dst r.eff).look t = U.look t := fun U => by simp only [St.app]; rw [if_neg hd]
      split <;> split <;> simp only [e, h]
theorem app_var_ne {U : St} {r : Rec} {x : Nat} (hd : r.wV ≠ some x) : (U.app r.dst r.eff).var x = U.var x := by
  simp only [St.app]
  unfold Rec.wV at hd
  cases hv : varEff r.dst r.eff with
  | none => rfl
  | some p =>
    obtain ⟨y, cs⟩ := p
    rw [hv] at hd
    simp only
    rw [if_neg (fun e => hd (by rw [e]; rfl))]
theorem app_var_eq {U U' : St} {r : Rec} {x : Nat} (hd : r.wV = some x) : (U.app r.dst r.eff).var x = (U'.app r.dst r.eff).var x := by
  simp only [St.app]
  unfold Rec.wV at hd
  cases hv : varEff r.dst r.eff with
  | none => rw [hv] at hd; cases hd
  | some p =>
    obtain ⟨y, cs⟩ := p
    rw [hv] at hd
    injection hd with hd
    simp only at hd ⊢
    rw [if_pos hd.symm, if_pos hd.symm]
theorem stF_var {s s' : Nat → Bool} {x : Nat} : ∀ (rs : List Rec) (i : Nat) (S S' : St), S.var x = S'.var x → (∀ k r, rs[k]? = some r → r.wV = some x → s (i + k) = s' (i + k)) → (stF s i rs S).var x = (stF s' i rs S').var x
  | [], _, _, _, h, _ => h
  | r :: rs, i, S, S', h, hk => by
    unfold stF
    refine stF_var rs (i + 1) _ _ ?_ (fun k r' hr hd => by
      have := hk (k + 1) r' hr hd
      rwa [show i + (k + 1) = i + 1 + k by omega] at this)
    by_cases hd : r.wV = some x
    · rw [show s i = s' i from hk 0 r rfl hd]
      split
      · exact app_var_eq hd
      · exact h
    · split <;> split <;> simp only [app_var_ne hd, h]
theorem app_comm {S : St} {a b : Rec} (hd : ∀ d, a.dst = some d → b.dst ≠ some d) (hv : ∀ x, a.wV = some x → b.wV ≠ some x) : (S.app a.dst a.eff).app b.dst b.eff = (S.app b.dst b.eff).app a.dst a.eff := by
  refine St.ext' (fun t => ?_) (fun x => ?_)
  · simp only [St.app]
    by_cases h1 : a.dst = some t
    · rw [if_neg (hd t h1), if_pos h1, if_pos h1]
    · rw [if_neg h1, if_neg h1]
  · by_cases h1 : a.wV = some x
    · rw [app_var_ne (hv x h1)]
      exact app_var_eq h1
    · by_cases h2 : b.wV = some x
      · rw [app_var_ne (U := S.app b.dst b.eff) h1]
        exact app_var_eq h2
      · rw [app_var_ne h2, app_var_ne h1, app_var_ne h1, app_var_ne h2]
theorem stF_comm {s : Nat → Bool} {a : Rec} : ∀ (rs : List Rec) (i : Nat) (S : St), (∀ k b, rs[k]? = some b → s (i + k) = true → (∀ d, a.dst = some d → b.dst ≠ some d) ∧ (∀ x, a.wV = some x → b.wV ≠ some x)) →
    stF s i rs (S.app a.dst a.eff) = (stF s i rs S).app a.dst a.eff
  | [], _, _, _ => rfl
  | b :: rs, i, S, h => by
    unfold stF
    have ih := fun U => stF_comm rs (i + 1) U (fun k c hc hs => h (k + 1) c hc (by rwa [show i + (k + 1) = i + 1 + k by omega]))
    by_cases hs : s i = true
    · obtain ⟨h1, h2⟩ := h 0 b rfl hs
      rw [if_pos hs, if_pos hs, app_comm h1 h2]
      exact ih _
    · rw [if_neg hs, if_neg hs]
      exact ih _
theorem stF_add {s s' : Nat → Bool} {a : Rec} : ∀ (rs : List Rec) (i j : Nat) (S : St), rs[j]? = some a → s (i + j) = false → s' (i + j) = true → (∀ k, k ≠ i + j → s' k = s k) →
    (∀ k b, j < k → rs[k]? = some b → s (i + k) = true → (∀ d, a.dst = some d → b.dst ≠ some d) ∧ (∀ x, a.wV = some x → b.wV ≠ some x)) →
    stF s' i rs S = (stF s i rs S).app a.dst a.eff
  | [], _, _, _, h, _, _, _, _ => by simp at h
  | b :: rs, i, 0, S, h, h1, h2, h3, h4 => by
    injection h with h
    subst h
    unfold stF
    rw [Nat.add_zero] at h1 h2 h3
    rw [h1, h2, if_pos rfl, if_neg (by simp)]
    rw [← stF_comm rs (i + 1) S (fun k c hc hs => h4 (k + 1) c (by omega) hc (by rwa [show i + (k + 1) = i + 1 + k by omega]))]
    exact stF_congr _ _ _ (fun k _ => h3 _ (by omega))
  | b :: rs, i, j + 1, S, h, h1, h2, h3, h4 => by
    unfold stF
    rw [h3 i (by omega)]
    exact stF_add rs (i + 1) j _ h (by rwa [show i + 1 + j = i + (j + 1) by omega]) (by rwa [show i + 1 + j = i + (j + 1) by omega]) (fun k hk => h3 k (by omega)) (fun k c hk hc hs => h4 (k + 1) c (by omega) hc (by rwa [show i + (k + 1) = i + 1 + k by omega]))

section
variable {P : Program} {E : Env} {n B : Nat} {w w0 : World} {a : Act} {G : Asm} {C : Cfg}
theorem recsE_spec {ops : Array Oper} : ∀ (l : List Oper) (S S' : St) (rs : List Rec), recsE C G n ops l S = some (rs, S') → rs.length = l.length ∧ S' = stF (fun _ => true) 0 rs S ∧
    ∀ i o, l[i]? = some o → ∃ r, rs[i]? = some r ∧ r.dst = o.dst ∧ r.ps = preds o ∧ r.rs = rdS ops o ∧ r.rv = rdV (stF (fun k => decide (k < i)) 0 rs S) o ∧ effE C G n ops (stF (fun k => decide (k < i)) 0 rs S) o = some r.eff
  | [], S, S', rs, h => by
    simp only [recsE] at h
    injection h with h
    injection h with h1 h2
    subst h1 h2
    exact ⟨rfl, rfl, fun i o h => by simp at h⟩
  | o :: l, S, S', rs, h => by
    unfold recsE at h
    split at h
    · rename_i e he
      split at h
      · rename_i rs2 S2 h2
        injection h with h
        injection h with h3 h4
        subst h3 h4
        obtain ⟨k1, k2, k3⟩ := recsE_spec l _ _ _ h2
        refine ⟨by simp [k1], ?_, fun i o' ho => ?_⟩
        · rw [k2]
          show _ = stF (fun _ => true) 1 rs2 _
          rw [stF_shift rs2 0]
          rfl
        · match i, ho with
          | 0, ho =>
            injection ho with ho
            subst ho
            have e0 : stF (fun k => decide (k < 0)) 0 (⟨o.dst, e, rdS ops o, rdV S o, preds o⟩ :: rs2) S = S := stF_none _ _ _ (fun k => by simp)
            exact ⟨_, rfl, rfl, rfl, rfl, by rw [e0], by rw [e0]; exact he⟩
          | i + 1, ho =>
            obtain ⟨r, j1, j2, j3, j4, j5, j6⟩ := k3 i o' ho
            have e1 : stF (fun k => decide (k < i + 1)) 0 (⟨o.dst, e, rdS ops o, rdV S o, preds o⟩ :: rs2) S = stF (fun k => decide (k < i)) 0 rs2 (S.app o.dst e) := by
              show stF (fun k => decide (k < i + 1)) 1 rs2 (if decide (0 < i + 1) then S.app o.dst e else S) = _
              rw [stF_shift rs2 0, if_pos (by simp)]
              refine stF_congr _ _ _ (fun k _ => ?_)
              simp
            exact ⟨r, j1, j2, j3, j4, by rw [e1]; exact j5, by rw [e1]; exact j6⟩
      · cases h
    · cases h
theorem SH.drew {S : St} {β : Nat → Nat} (h : SH E n B w0 S β a w) : SH E n B w0 S β a w.drew := by
  have ex := (Ext.refl w).drew
  have hk := Kp.of (B := B) ex h.hp
  exact ⟨fun t x hx => AV.keep hk (h.sl t x hx), fun x cs hx => ⟨(h.vr x cs hx).1, (h.vr x cs hx).2.ext ex⟩, h.inj, h.wf, h.sz, h.nd, h.hp, h.bl.drew, h.nz⟩
theorem allOps_of {F : Nat → Oper → Prop} : ∀ {l : List Oper} {k : Nat}, (∀ i o, l[i]? = some o → F (k + i) o) → AllOps F k l
  | [], _, _ => AllOps.nil
  | o :: l, k, h => AllOps.cons (h 0 o rfl) (allOps_of (fun i o ho => by have := h (i + 1) o ho; rwa [show k + (i + 1) = k + 1 + i by omega] at this))
theorem set_getD {s : Array Bool} {i k : Nat} (h : i < s.size) : (s.setIfInBounds i true).getD k false = (s.getD k false || k == i) := by
  simp only [Array.getD_eq_getD_getElem?, Array.getElem?_setIfInBounds]
  by_cases hk : i = k
  · subst hk
    rw [if_pos rfl, if_pos h]
    simp
  · rw [if_neg hk]
    have : (k == i) = false := by simp; omega
    rw [this, Bool.or_false]
theorem drawn_sound (hm : P.follows .mixedOrders = true) (hC : CfgAt P E C B w0) (hG : G.holds E) {id : Nat} {l : List Oper} {S S' : St} {rs : List Rec} {Q : Exit → Act → World → Prop} (h : S.holds E n B w0 a w) (hb : backB 0 l = true)
    (hr : recsE C G n l.toArray l S = some (rs, S')) (hp : okPairs 0 rs = true) (hQ : ∀ a' w', S'.holds E n B w0 a' w' → Q .normal a' w') : (Code.region id l.toArray true).wp P Q a w := by
  obtain ⟨k1, k2, k3⟩ := recsE_spec l S S' rs hr
  obtain ⟨β0, h0⟩ := h
  refine wp_region_inv (fun a0 s a' w' => a0 = a → (s.size = l.length ∧ (∀ k, s.getD k false = true → ∀ o, l[k]? = some o → ∀ j ∈ preds o, s.getD j false = true) ∧ (stF (fun k => s.getD k false) 0 rs S).holds E n B w0 a' w')) hm hb n h0.sz ?_ ?_ ?_
  · rintro a' _ rfl
    refine ⟨by simp, fun k hk => (none_yet hk).elim, ?_⟩
    rw [stF_none rs 0 S (fun k => by
      rcases hh : (Array.replicate l.length false).getD k false with _ | _
      · rfl
      · exact (none_yet hh).elim)]
    exact ⟨β0, h0.drew⟩
  · intro s a' w' hI
    obtain ⟨hz, hcl, hst⟩ := hI rfl
    refine allOps_of (fun i o ho => ?_)
    rw [Nat.zero_add]
    intro hu hpr K hK
    obtain ⟨r, j1, j2, j3, j4, j5, j6⟩ := k3 i o ho
    have hil : i < l.length := (List.getElem?_eq_some_iff.1 ho).1
    have hlo : ∀ (k : Nat) (b : Rec), rs[k]? = some b → ∃ o', l[k]? = some o' ∧ b.ps = preds o' := by
      intro k b hb'
      have hkl : k < l.length := by rw [← k1]; exact (List.getElem?_eq_some_iff.1 hb').1
      obtain ⟨r', i1, _, i3, _⟩ := k3 k l[k] (List.getElem?_eq_getElem hkl)
      rw [hb'] at i1
      injection i1 with i1
      subst i1
      exact ⟨_, List.getElem?_eq_getElem hkl, i3⟩
    have later : ∀ (k : Nat) (b : Rec), i < k → rs[k]? = some b → s.getD k false = true → noconf r b = true := by
      intro k b hik hb' hs
      rcases okPairs_get hp i k r b hik j1 hb' with hin | hnc
      · exfalso
        rw [Nat.zero_add] at hin
        obtain ⟨o', ho', hps⟩ := hlo k b hb'
        have := hcl k hs o' ho' i (by rw [← hps]; exact hin)
        rw [this] at hu; cases hu
      · exact hnc
    have earlier : ∀ (k : Nat) (b : Rec), k < i → rs[k]? = some b → s.getD k false = true ∨ noconf b r = true := by
      intro k b hki hb'
      rcases okPairs_get hp k i b r hki hb' j1 with hin | hnc
      · rw [Nat.zero_add] at hin
        exact .inl (hpr k (by rw [← j3]; exact hin))
      · exact .inr hnc
    have agreeS : ∀ t ∈ rdS l.toArray o, (stF (fun k => decide (k < i)) 0 rs S).look t = (stF (fun k => s.getD k false) 0 rs S).look t := by
      intro t ht
      refine stF_look rs 0 S S rfl (fun k b hb' hd => ?_)
      rw [Nat.zero_add]
      rw [← j4] at ht
      rcases Nat.lt_trichotomy k i with hk | hk | hk
      · rw [decide_eq_true hk]
        rcases earlier k b hk hb' with hs | hnc
        · exact hs.symm
        · exfalso
          simp only [noconf, hd, Bool.and_eq_true, Bool.not_eq_true'] at hnc
          have := hnc.2.1.1
          simp [ht] at this
      · subst hk
        rw [hu]; simp
      · rw [decide_eq_false (by omega)]
        rcases hs : s.getD k false with _ | _
        · rfl
        · exfalso
          have hnc := later k b hk hb' hs
          simp only [noconf, hd, Bool.and_eq_true, Bool.not_eq_true'] at hnc
          have := hnc.1
          simp [ht] at this
    have agreeV : ∀ x ∈ rdV (stF (fun k => decide (k < i)) 0 rs S) o, (stF (fun k => decide (k < i)) 0 rs S).var x = (stF (fun k => s.getD k false) 0 rs S).var x := by
      intro x hx
      refine stF_var rs 0 S S rfl (fun k b hb' hd => ?_)
      rw [Nat.zero_add]
      rw [← j5] at hx
      rcases Nat.lt_trichotomy k i with hk | hk | hk
      · rw [decide_eq_true hk]
        rcases earlier k b hk hb' with hs | hnc
        · exact hs.symm
        · exfalso
          simp only [noconf, hd, Bool.and_eq_true, Bool.not_eq_true'] at hnc
          have := hnc.2.2.2.1
          simp [hx] at this
      · subst hk
        rw [hu]; simp
      · rw [decide_eq_false (by omega)]
        rcases hs : s.getD k false with _ | _
        · rfl
        · exfalso
          have hnc := later k b hk hb' hs
          simp only [noconf, hd, Bool.and_eq_true, Bool.not_eq_true'] at hnc
          have := hnc.2.2.1
          simp [hx] at this
    have he := effE_congr agreeS agreeV j6
    refine effE_sound hC hG hst he K Q (fun a2 w2 h2 => hK.out a2 w2 (fun _ => ⟨by simpa using hz, ?_, ?_⟩))
    · intro k hk o' ho' j hj
      rw [set_getD (by omega)] at hk ⊢
      rw [Bool.or_eq_true] at hk ⊢
      rcases hk with hk | hk
      · exact .inl (hcl k hk o' ho' j hj)
      · have hki : k = i := by simpa using hk
        subst hki
        rw [ho] at ho'
        injection ho' with ho'
        subst ho'
        exact .inl (hpr j hj)
    · have hadd := stF_add (s := fun k => s.getD k false) (s' := fun k => (s.setIfInBounds i true).getD k false) rs 0 i S j1 (by rw [Nat.zero_add]; exact hu) (by rw [Nat.zero_add]; show (s.setIfInBounds i true).getD i false = true; rw [set_getD (by omega)]; simp) (fun k hk => by
        show (s.setIfInBounds i true).getD k false = s.getD k false
        rw [set_getD (by omega)]
        have : (k == i) = false := by simp; omega
        rw [this, Bool.or_false]) (fun k b hik hb' hs => by
        rw [Nat.zero_add] at hs
        have hnc := later k b hik hb' hs
        simp only [noconf, Bool.and_eq_true] at hnc
        refine ⟨fun d hd => ?_, fun x hx => ?_⟩
        · have := hnc.2.1
          rw [hd] at this
          simp only [Bool.and_eq_true, Bool.not_eq_true'] at this
          intro e
          rw [e] at this
          simp at this
        · have := hnc.2.2.2
          rw [hx] at this
          simp only [Bool.and_eq_true, Bool.not_eq_true'] at this
          intro e
          rw [e] at this
          simp at this)
      rw [hadd, j2]
      exact h2
  · intro s a' w' hall hI
    obtain ⟨hz, hcl, hst⟩ := hI rfl
    refine hQ a' w' ?_
    rw [k2]
    rw [stF_congr rs 0 S (s' := fun _ => true) (fun k hk => by rw [Nat.zero_add]; exact hall k (by rw [← k1]; exact hk))] at hst
    exact hst
end

end Go.Proofs.YtdblkeeicmncfaaGreat
end

/- ---- Sxh ---- -/
section
/-
  A walker that goes by reckoning: the code of a function without loops, and its call.
-/
set_option maxRecDepth 100000
namespace Go.Proofs.YtdblkeeicmncfaaGreat
open Go.RowKit

/-- What a walk comes to: results, by tests. -/
inductive Tree where
  | leaf (l : List (Bool × List Chunk))
  | ite (b : BT) (t e : Tree)
def Tree.pick (E : Env) : Tree → List (Bool × List Chunk)
  | .leaf l => l
  | .ite b t e => if b.den E then t.pick E else e.pick E
inductive Ex where
  | norm
  | ret
  | exit (id : Nat)
def Ex.to : Ex → Exit
  | .norm => .normal
  | .ret => .ret
  | .exit id => .exit id
def BT.base : BT → BT
  | .not x => x.base
  | t => t
def needO (C : Cfg) (G : Asm) (ops : Array Oper) (S : St) (o : Oper) : Option BT :=
  let pk := match o.op with
    | .pick c _ _ => match opnd S.look c with
      | some (.val false [.b tt]) => match tt.ev G with | none => some tt.base | some _ => none
      | _ => none
    | .binOp _ _ x y _ => match opnd S.look x, opnd S.look y with
      | some (.val false [.b s]), some (.val false [.b t]) => match s.ev G with
        | none => some s.base
        | some _ => match t.ev G with | none => some t.base | some _ => none
      | _, _ => none
    | .call c => match c.callee with
      | .value f => match opnd S.look f with
        | some (.val false [.fn g]) => match opnds S.look c.args.toList with
          | some xs => C.need g xs (xs.map (memOf S.var)) G
          | none => none
        | _ => none
      | _ => none
    | _ => none
  match o.guard with
  | none => pk
  | some (j, _) => match (ops[j]?).bind (·.dst) with
    | some t => match S.look t with
      | some (.val false [.b tt]) => match tt.ev G with | none => some tt.base | some _ => pk
      | _ => pk
    | none => pk
def needE (C : Cfg) (G : Asm) (n : Nat) (ops : Array Oper) : List Oper → St → Option BT
  | [], _ => none
  | o :: l, S => match effE C G n ops S o with
    | some e => needE C G n ops l (S.app o.dst e)
    | none => needO C G ops S o
def regE (C : Cfg) (G : Asm) (n : Nat) (l : List Oper) (drawn : Bool) (S : St) : Option St :=
  if drawn then
    match recsE C G n l.toArray l S with
    | some (rs, S') => if okPairs 0 rs && backB 0 l then some S' else none
    | none => none
  else runE C G n l.toArray l S
def regT (C : Cfg) (n : Nat) (l : List Oper) (drawn : Bool) (k : Asm → St → Option Tree) : Nat → Asm → St → Option Tree
  | 0, _, _ => none
  | f + 1, G, S => match regE C G n l drawn S with
    | some S' => k G S'
    | none => match needE C G n l.toArray l S with
      | some b => match regT C n l drawn k f ((b, true) :: G) S, regT C n l drawn k f ((b, false) :: G) S with
        | some t, some e => some (.ite b t e)
        | _, _ => none
      | none => none
/-- A variable, forgotten with all that points to it. -/
def St.drop (S : St) (d : Nat) : St where
  look t := match S.look t with
    | some (.ptr x off) => if x = d then none else some (.ptr x off)
    | o => o
  var x := if x = d then none else S.var x
theorem St.drop_holds {E : Env} {n B : Nat} {w0 : World} {S : St} {a : Act} {w : World} (h : S.holds E n B w0 a w) (d : Nat) : (S.drop d).holds E n B w0 a w := by
  obtain ⟨β, h⟩ := h
  have hl : ∀ t x, (S.drop d).look t = some x → S.look t = some x ∧ ∀ y off, x = .ptr y off → y ≠ d := by
    intro t x hx
    simp only [St.drop] at hx
    split at hx
    · rename_i y off hy
      split at hx
      · cases hx
      · rename_i hne
        injection hx with hx
        subst hx
        refine ⟨hy, fun y' off' e => ?_⟩
        injection e with e1 e2
        rw [← e1]; exact hne
    · rename_i hno
      exact ⟨hx, fun y off e => absurd (e ▸ hx) (hno y off)⟩
  have hv : ∀ x cs, (S.drop d).var x = some cs → S.var x = some cs ∧ x ≠ d := by
    intro x cs hx
    simp only [St.drop] at hx
    split at hx
    · cases hx
    · rename_i hne
      exact ⟨hx, hne⟩
  refine ⟨β, fun t x hx => h.sl t x (hl t x hx).1, fun x cs hx => h.vr x cs (hv x cs hx).1, fun x y hx hy => ?_, fun t x off hx => ?_, h.sz, h.nd, h.hp, h.bl, fun x cs hx => h.nz x cs (hv x cs hx).1⟩
  · obtain ⟨cs, hcs⟩ := Option.isSome_iff_exists.1 hx
    obtain ⟨ds, hds⟩ := Option.isSome_iff_exists.1 hy
    exact h.inj x y (by rw [(hv x cs hcs).1]; rfl) (by rw [(hv y ds hds).1]; rfl)
  · obtain ⟨h1, h2⟩ := hl t _ hx
    have hne := h2 x off rfl
    show (if x = d then none else S.var x).isSome = true
    rw [if_neg hne]
    exact h.wf t x off h1
def St.drops (S : St) : List Nat → St
  | [] => S
  | d :: l => (S.drop d).drops l
theorem St.drops_holds {E : Env} {n B : Nat} {w0 : World} {a : Act} {w : World} : ∀ (l : List Nat) {S : St}, S.holds E n B w0 a w → (S.drops l).holds E n B w0 a w
  | [], _, h => h
  | d :: l, _, h => St.drops_holds l (St.drop_holds h d)
def allocO (o : Oper) : List Nat :=
  match o.op, o.dst with
  | .alloc _, some d => [d]
  | .box _ _, some d => [d]
  | .buildSlice _ _ _, some d => [d]
  | _, _ => []
def allocs : Code → List Nat
  | .region _ ops _ => ops.toList.flatMap allocO
  | .seq a b => allocs a ++ allocs b
  | .block _ c => allocs c
  | .cond _ a b => allocs a ++ allocs b
  | _ => []
/-- A loop, round after round. -/
def loopE (l : List Nat) (step : (Asm → St → Ex → Option Tree) → Asm → St → Option Tree) (k : Asm → St → Ex → Option Tree) : Nat → Asm → St → Option Tree
  | 0, _, _ => none
  | f + 1, G, S => step (fun G S e => match e with | .norm => loopE l step k f G (S.drops l) | e => k G S e) G S
def exec (C : Cfg) (n : Nat) : Code → (Asm → St → Ex → Option Tree) → Asm → St → Option Tree
  | .skip, k, G, S => k G S .norm
  | .ret, k, G, S => k G S .ret
  | .exit id, k, G, S => k G S (.exit id)
  | .region _ ops drawn, k, G, S => regT C n ops.toList drawn (fun G S => k G S .norm) 64 G S
  | .seq a b, k, G, S => exec C n a (fun G S e => match e with | .norm => exec C n b k G S | e => k G S e) G S
  | .loop c, k, G, S => loopE (allocs c) (fun k G S => exec C n c k G S) k 16 G S
  | .block id c, k, G, S => exec C n c (fun G S e => match e with | .exit j => if j = id then k G S .norm else k G S (.exit j) | e => k G S e) G S
  | .cond c x y, k, G, S => match opnd S.look c with
    | some (.val false [.b tt]) => match tt.ev G with
      | some true => exec C n x k G S
      | some false => exec C n y k G S
      | none => match tt.ev ((tt.base, true) :: G), tt.ev ((tt.base, false) :: G) with
        | some b1, some b2 =>
          match (if b1 then exec C n x k ((tt.base, true) :: G) S else exec C n y k ((tt.base, true) :: G) S), (if b2 then exec C n x k ((tt.base, false) :: G) S else exec C n y k ((tt.base, false) :: G) S) with
          | some t, some e => some (.ite tt.base t e)
          | _, _ => none
        | _, _ => none
    | _ => none
  | _, _, _, _ => none

section
variable {P : Program} {E : Env} {n B : Nat} {w w0 : World} {a : Act} {C : Cfg}
theorem asm_cons {G : Asm} (hG : G.holds E) {b : BT} {v : Bool} (h : b.den E = v) : Asm.holds E ((b, v) :: G) := by
  intro p hp
  rcases List.mem_cons.1 hp with rfl | hp
  · exact h
  · exact hG p hp
theorem regE_sound (hm : P.follows .mixedOrders = true) (hC : CfgAt P E C B w0) {G : Asm} (hG : G.holds E) {id : Nat} {l : List Oper} {drawn : Bool} {S S' : St} {Q : Exit → Act → World → Prop} (h : S.holds E n B w0 a w)
    (hr : regE C G n l drawn S = some S') (hQ : ∀ a' w', S'.holds E n B w0 a' w' → Q .normal a' w') : (Code.region id l.toArray drawn).wp P Q a w := by
  unfold regE at hr
  cases drawn with
  | false =>
    simp only [Bool.false_eq_true, if_false] at hr
    exact wp_region_lit (runE_sound hC hG l S S' a w h hr hQ)
  | true =>
    simp only [if_true] at hr
    split at hr
    · rename_i rs S2 h2
      split at hr
      · rename_i hok
        rw [Bool.and_eq_true] at hok
        injection hr with hr
        subst hr
        exact drawn_sound hm hC hG h hok.2 h2 hok.1 hQ
      · cases hr
    · cases hr
theorem regT_sound (hm : P.follows .mixedOrders = true) (hC : CfgAt P E C B w0) {id : Nat} {l : List Oper} {drawn : Bool} {k : Asm → St → Option Tree} {Q : Exit → Act → World → Prop} : ∀ (f : Nat) (G : Asm) (S : St) (T : Tree), G.holds E → S.holds E n B w0 a w →
    regT C n l drawn k f G S = some T →
    (∀ G' S' T', k G' S' = some T' → G'.holds E → T.pick E = T'.pick E → ∀ a' w', S'.holds E n B w0 a' w' → Q .normal a' w') → (Code.region id l.toArray drawn).wp P Q a w
  | 0, _, _, _, _, _, h, _ => by simp [regT] at h
  | f + 1, G, S, T, hG, hS, h, hk => by
    unfold regT at h
    split at h
    · rename_i S' hS'
      exact regE_sound hm hC hG hS hS' (fun a' w' h' => hk G S' T h hG rfl a' w' h')
    · split at h
      · rename_i b hb
        split at h
        · rename_i t e ht he
          injection h with h
          subst h
          rcases hbv : b.den E with _ | _
          · exact regT_sound hm hC f _ S e (asm_cons hG hbv) hS he (fun G' S' T' h1 h2 h3 => hk G' S' T' h1 h2 (by rw [Tree.pick, hbv, if_neg (by simp)]; exact h3))
          · exact regT_sound hm hC f _ S t (asm_cons hG hbv) hS ht (fun G' S' T' h1 h2 h3 => hk G' S' T' h1 h2 (by rw [Tree.pick, hbv, if_pos rfl]; exact h3))
        · cases h
      · cases h
theorem exec_sound (hm : P.follows .mixedOrders = true) (hC : CfgAt P E C B w0) : ∀ (c : Code) (k : Asm → St → Ex → Option Tree) (Q : Exit → Act → World → Prop) (G : Asm) (S : St) (T : Tree) (a : Act) (w : World), G.holds E → S.holds E n B w0 a w →
    exec C n c k G S = some T →
    (∀ G' S' e T', k G' S' e = some T' → G'.holds E → T.pick E = T'.pick E → ∀ a' w', S'.holds E n B w0 a' w' → Q e.to a' w') → c.wp P Q a w := by
  intro c
  induction c with
  | skip => intro k Q G S T a w hG hS h hk; exact wp_skip (hk G S .norm T h hG rfl a w hS)
  | ret => intro k Q G S T a w hG hS h hk; exact wp_ret (hk G S .ret T h hG rfl a w hS)
  | exit id => intro k Q G S T a w hG hS h hk; exact wp_exit (hk G S (.exit id) T h hG rfl a w hS)
  | region id ops drawn =>
    intro k Q G S T a w hG hS h hk
    have := regT_sound (id := id) hm hC 64 G S T hG hS h (fun G' S' T' h1 h2 h3 a' w' h4 => hk G' S' .norm T' h1 h2 h3 a' w' h4)
    simpa using this
  | seq x y ihx ihy =>
    intro k Q G S T a w hG hS h hk
    refine wp_seq (ihx _ _ G S T a w hG hS h (fun G' S' e T' h1 h2 h3 a' w' h4 => ?_))
    cases e with
    | norm => exact ihy k Q G' S' T' a' w' h2 h4 h1 (fun G2 S2 e2 T2 j1 j2 j3 => hk G2 S2 e2 T2 j1 j2 (h3.trans j3))
    | ret => exact hk G' S' .ret T' h1 h2 h3 a' w' h4
    | exit id => exact hk G' S' (.exit id) T' h1 h2 h3 a' w' h4
  | block id c ih =>
    intro k Q G S T a w hG hS h hk
    refine wp_block (ih _ _ G S T a w hG hS h (fun G' S' e T' h1 h2 h3 a' w' h4 => ?_))
    cases e with
    | norm => exact hk G' S' .norm T' h1 h2 h3 a' w' h4
    | ret => exact hk G' S' .ret T' h1 h2 h3 a' w' h4
    | exit j =>
      simp only at h1
      show (if j = id then Q .normal a' w' else Q (.exit j) a' w')
      by_cases hj : j = id
      · rw [if_pos hj] at h1 ⊢
        exact hk G' S' .norm T' h1 h2 h3 a' w' h4
      · rw [if_neg hj] at h1 ⊢
        exact hk G' S' (.exit j) T' h1 h2 h3 a' w' h4
  | loop c ih =>
    intro k Q G S T a w hG hS h hk
    simp only [exec] at h
    have key : ∀ (f : Nat) (G : Asm) (S : St) (T : Tree) (a : Act) (w : World), G.holds E → S.holds E n B w0 a w → loopE (allocs c) (fun k G S => exec C n c k G S) k f G S = some T →
        (∀ G' S' e T', k G' S' e = some T' → G'.holds E → T.pick E = T'.pick E → ∀ a' w', S'.holds E n B w0 a' w' → Q e.to a' w') → Code.rounds P c Q f a w := by
      intro f
      induction f with
      | zero => intro G S T a w hG hS h hk; cases h
      | succ f ihf =>
        intro G S T a w hG hS h hk
        rw [rounds_succ]
        simp only [loopE] at h
        refine ih _ _ G S T a w hG hS h (fun G' S' e T' h1 h2 h3 a' w' h4 => ?_)
        cases e with
        | norm => exact ihf G' _ T' a' w' h2 (St.drops_holds _ h4) h1 (fun G2 S2 e2 T2 j1 j2 j3 => hk G2 S2 e2 T2 j1 j2 (h3.trans j3))
        | ret => exact hk G' S' .ret T' h1 h2 h3 a' w' h4
        | exit id => exact hk G' S' (.exit id) T' h1 h2 h3 a' w' h4
    exact wp_loop_rounds 16 (key 16 G S T a w hG hS h hk)
  | cond c x y ihx ihy =>
    intro k Q G S T a w hG hS h hk
    simp only [exec] at h
    split at h
    · rename_i tt hc
      obtain ⟨β, hS'⟩ := hS
      have hv := opnd_spec (E := E) (β := β) (w := w) hS'.sl hc
      have hSS : S.holds E n B w0 a w := ⟨β, hS'⟩
      obtain ⟨⟨l1, r1, h1, h2, h3⟩, _⟩ := hv
      simp only [Chunk.holds] at h2
      simp only [chunks] at h3
      subst h2 h3
      injection h1 with h1
      split at h
      · rename_i hev
        rw [BT.ev_spec hG hev] at h1
        exact wp_cond_true h1 (ihx k Q G S T a w hG hSS h hk)
      · rename_i hev
        rw [BT.ev_spec hG hev] at h1
        exact wp_cond_false h1 (ihy k Q G S T a w hG hSS h hk)
      · split at h
        · rename_i b1 b2 e1 e2
          split at h
          · rename_i t e ht he
            injection h with h
            subst h
            rcases hbv : tt.base.den E with _ | _
            · have hG2 := asm_cons hG hbv
              rw [BT.ev_spec hG2 e2] at h1
              have hk2 : ∀ G' S' x T', k G' S' x = some T' → G'.holds E → e.pick E = T'.pick E → ∀ a' w', S'.holds E n B w0 a' w' → Q x.to a' w' := fun G' S' x T' j1 j2 j3 => hk G' S' x T' j1 j2 (by rw [Tree.pick, hbv, if_neg (by simp)]; exact j3)
              cases b2 with
              | true => exact wp_cond_true h1 (ihx k Q _ S e a w hG2 hSS he hk2)
              | false => exact wp_cond_false h1 (ihy k Q _ S e a w hG2 hSS he hk2)
            · have hG2 := asm_cons hG hbv
              rw [BT.ev_spec hG2 e1] at h1
              have hk2 : ∀ G' S' x T', k G' S' x = some T' → G'.holds E → t.pick E = T'.pick E → ∀ a' w', S'.holds E n B w0 a' w' → Q x.to a' w' := fun G' S' x T' j1 j2 j3 => hk G' S' x T' j1 j2 (by rw [Tree.pick, hbv, if_pos rfl]; exact j3)
              cases b1 with
              | true => exact wp_cond_true h1 (ihx k Q _ S t a w hG2 hSS ht hk2)
              | false => exact wp_cond_false h1 (ihy k Q _ S t a w hG2 hSS ht hk2)
          · cases h
        · cases h
    · cases h
  | _ => intro k Q G S T a w hG hS h hk; simp [exec] at h

/-- The results. -/
def resE (C : Cfg) (S : St) : List ResultVar → Option (List (Bool × List Chunk))
  | [] => some []
  | r :: rs =>
    match (match r with
      | .tmp t => S.look t
      | .cell t ty => match S.look t with
        | some (.ptr x off) => if off < big then match S.var x with
          | some cs => loadE C cs off ty
          | none => none else none
        | _ => none), resE C S rs with
    | some (.val b cs), some l => some ((b, cs) :: l)
    | _, _ => none
def toAV : List (Bool × List Chunk) → AV
  | [p] => .val p.1 p.2
  | l => .tup l
def rv1 (tmps : Array Value) (r : ResultVar) : Sem Value :=
  match r with
  | .tmp t => pure (tmps.getD t Go.undef)
  | .cell a t => do loadVar t (← asAddr (tmps.getD a Go.undef))
theorem results_eq (fn : Func) (tmps : Array Value) : results fn tmps = (do let vs ← fn.results.mapM (rv1 tmps); pure (if h : vs.size = 1 then vs[0] else .tuple vs)) := by
  unfold results
  congr 1
theorem resE_one (hC : CfgOK P E C) {S : St} {β : Nat → Nat} (h : SH E n B w0 S β a w) {r : ResultVar} {b : Bool} {cs : List Chunk} (hr : (match r with
      | .tmp t => S.look t
      | .cell t ty => match S.look t with
        | some (.ptr x off) => if off < big then match S.var x with
          | some cs => loadE C cs off ty
          | none => none else none
        | _ => none) = some (.val b cs)) :
    ∃ v, (rv1 a.tmps r).run P w = .ok v w ∧ one E w (b, cs) v := by
  cases r with
  | tmp t => exact ⟨_, rfl, h.sl t _ hr⟩
  | cell t ty =>
    simp only at hr
    split at hr
    · rename_i x off hx
      split at hr
      rotate_left
      · cases hr
      rename_i hlt
      split at hr
      · rename_i ds hd
        have he : a.tmps.getD t Go.undef = .pointer (some ⟨β x, off, none⟩) := Eq.trans (h.sl t _ hx) (pv_lt hlt)
        obtain ⟨v, k1, k2⟩ := loadE_sound (β := β) hC hr (h.vr x ds hd).2
        refine ⟨v, ?_, k2⟩
        simp only [rv1, he]
        simp only [Instr.loadAt, Instr.sureAddr, Sem.run_bind, Sem.run_pure, Result.andThen_ok] at k1
        simp only [asAddr, Sem.run_bind, Sem.run_pure, Result.andThen_ok]
        exact k1
      · cases hr
    · cases hr
theorem resE_sound (hC : CfgOK P E C) {S : St} (h : S.holds E n B w0 a w) {fn : Func} {rs : List ResultVar} (hf : fn.results = rs.toArray) (h4 : rs.length ≤ 4) {l : List (Bool × List Chunk)} (hr : resE C S rs = some l) :
    ∃ β v, (results fn a.tmps).run P w = .ok v w ∧ (toAV l).holds E β w v := by
  obtain ⟨β, h⟩ := h
  have step : ∀ (r : ResultVar) (rs : List ResultVar) (l : List (Bool × List Chunk)), resE C S (r :: rs) = some l → ∃ b cs l', l = (b, cs) :: l' ∧ resE C S rs = some l' ∧
      ∃ v, (rv1 a.tmps r).run P w = .ok v w ∧ one E w (b, cs) v := by
    intro r rs l hr
    unfold resE at hr
    split at hr
    · rename_i b cs l' h1 h2
      injection hr with hr
      exact ⟨b, cs, l', hr.symm, h2, resE_one hC h h1⟩
    · cases hr
  match rs, h4 with
  | [], _ =>
    simp only [resE] at hr
    injection hr with hr
    subst hr
    exact ⟨β, .tuple #[], by simp [results, hf], [], rfl, rfl⟩
  | [r1], _ =>
    obtain ⟨b1, c1, l1, rfl, hr1, v1, e1, o1⟩ := step _ _ _ hr
    simp only [resE] at hr1
    injection hr1 with hr1
    subst hr1
    exact ⟨β, v1, by rw [results_eq, hf]; simp [e1], o1⟩
  | [r1, r2], _ =>
    obtain ⟨b1, c1, l1, rfl, hr1, v1, e1, o1⟩ := step _ _ _ hr
    obtain ⟨b2, c2, l2, rfl, hr2, v2, e2, o2⟩ := step _ _ _ hr1
    simp only [resE] at hr2
    injection hr2 with hr2
    subst hr2
    exact ⟨β, .tuple #[v1, v2], by rw [results_eq, hf]; simp [e1, e2], [v1, v2], rfl, v1, _, rfl, o1, v2, _, rfl, o2, rfl⟩
  | [r1, r2, r3], _ =>
    obtain ⟨b1, c1, l1, rfl, hr1, v1, e1, o1⟩ := step _ _ _ hr
    obtain ⟨b2, c2, l2, rfl, hr2, v2, e2, o2⟩ := step _ _ _ hr1
    obtain ⟨b3, c3, l3, rfl, hr3, v3, e3, o3⟩ := step _ _ _ hr2
    simp only [resE] at hr3
    injection hr3 with hr3
    subst hr3
    exact ⟨β, .tuple #[v1, v2, v3], by rw [results_eq, hf]; simp [e1, e2, e3], [v1, v2, v3], rfl, v1, _, rfl, o1, v2, _, rfl, o2, v3, _, rfl, o3, rfl⟩
  | [r1, r2, r3, r4], _ =>
    obtain ⟨b1, c1, l1, rfl, hr1, v1, e1, o1⟩ := step _ _ _ hr
    obtain ⟨b2, c2, l2, rfl, hr2, v2, e2, o2⟩ := step _ _ _ hr1
    obtain ⟨b3, c3, l3, rfl, hr3, v3, e3, o3⟩ := step _ _ _ hr2
    obtain ⟨b4, c4, l4, rfl, hr4, v4, e4, o4⟩ := step _ _ _ hr3
    simp only [resE] at hr4
    injection hr4 with hr4
    subst hr4
    exact ⟨β, .tuple #[v1, v2, v3, v4], by rw [results_eq, hf]; simp [e1, e2, e3, e4], [v1, v2, v3, v4], rfl, v1, _, rfl, o1, v2, _, rfl, o2, v3, _, rfl, o3, v4, _, rfl, o4, rfl⟩

/-- A function, called. -/
def funE (C : Cfg) (fn : Func) (G : Asm) (args : List AV) : Option Tree :=
  match fn.body with
  | some c => exec C fn.ntmps c (fun _ S e => match e with
    | .norm => (resE C S fn.results.toList).map .leaf
    | .ret => (resE C S fn.results.toList).map .leaf
    | .exit _ => none) G ⟨fun t => args[t]?, fun _ => none⟩
  | none => none
def noPtr : AV → Bool
  | .ptr _ _ => false
  | _ => true
theorem fun_sound (hm : P.follows .mixedOrders = true) (hC : CfgOK P E C) {G : Asm} (hG : G.holds E) {f : FuncId} {fn : Func} (hf : P.funcs[f]? = some fn) (h4 : fn.results.toList.length ≤ 4) {args : List AV} {T : Tree} (hT : funE C fn G args = some T) (hn : args.length ≤ fn.ntmps) (hnp : args.all noPtr = true)
    (w : World) (vs : List Value) (hl : vs.length = args.length) (hv : ∀ (i : Nat) (x : AV), args[i]? = some x → ∃ β v, vs[i]? = some v ∧ x.holds E β w v) (hwk : ∀ w', Ext w w' → C.wok w' := by intros; exact True.intro) :
    Calls P f vs.toArray w fun e w' => ∃ β v, e = .returned v ∧ (toAV (T.pick E)).holds E β w' v ∧ Ext w w' := by
  unfold funE at hT
  split at hT
  · rename_i c hb
    refine calls_of_wp hf hb ?_
    refine exec_sound (B := w.heap.size) (w0 := w) (n := fn.ntmps) hm ⟨hC, hwk⟩ c _ _ G _ T _ w hG ⟨fun _ => 0, ?_⟩ hT ?_
    · refine ⟨fun t x hx => ?_, fun x cs h => (by cases h), fun x y h => (by cases h), fun t x off h => ?_, ?_, rfl, Nat.le_refl _, Below.refl _ _, fun x cs h => (by cases h)⟩
      · obtain ⟨β, v, h1, h2⟩ := hv t x hx
        have hlt := (List.getElem?_eq_some_iff.1 h1).1
        have e : (vs.toArray ++ Array.replicate (fn.ntmps - vs.toArray.size) Go.undef).getD t Go.undef = v := by
          rw [Array.getD_eq_getD_getElem?, Array.getElem?_append_left (by simpa using hlt)]
          simp [h1]
        rw [e]
        have hnp' : noPtr x = true := List.all_eq_true.1 hnp x (List.mem_of_getElem? hx)
        cases x with
        | ptr y off => cases hnp'
        | _ => exact h2
      · have hnp' : noPtr (.ptr x off) = true := List.all_eq_true.1 hnp _ (List.mem_of_getElem? h)
        cases hnp'
      · simp; omega
    · intro G' S' e T' h1 h2 h3 a' w' h4'
      have fin : (resE C S' fn.results.toList).map Tree.leaf = some T' → a'.defers = [] ∧ ∃ v, (results fn a'.tmps).run P w' = .ok v w' ∧ (∃ β v', Ending.returned v = .returned v' ∧ (toAV (T.pick E)).holds E β w' v' ∧ Ext w w') := by
        intro hh
        obtain ⟨l, hl, rfl⟩ := Option.map_eq_some_iff.1 hh
        obtain ⟨β, v, r1, r2⟩ := resE_sound hC h4' (fn := fn) (rs := fn.results.toList) (by simp) h4 hl
        obtain ⟨β', hS⟩ := h4'
        exact ⟨hS.nd, v, r1, β, v, rfl, by rw [h3]; exact r2, hS.bl⟩
      cases e with
      | norm => exact fin h1
      | ret => exact fin h1
      | exit id => cases h1
  · cases hT
/-- A function of one row, called: the row is a variable that is only read. -/
def funR (C : Cfg) (fn : Func) (G : Asm) (cs : List Chunk) (off : Nat) : Option Tree :=
  match fn.body with
  | some c => exec C fn.ntmps c (fun _ S e => match e with
    | .norm => (resE C S fn.results.toList).map .leaf
    | .ret => (resE C S fn.results.toList).map .leaf
    | .exit _ => none) G ⟨fun t => if t = 0 then some (.ptr ro off) else none, fun x => if x = ro then some cs else none⟩
  | none => none
theorem row_sound (hm : P.follows .mixedOrders = true) (hC : CfgOK P E C) {G : Asm} (hG : G.holds E) {f : FuncId} {fn : Func} (hf : P.funcs[f]? = some fn) (h4 : fn.results.toList.length ≤ 4) {cs : List Chunk} {off : Nat} {T : Tree} (hT : funR C fn G cs off = some T) (hn : 1 ≤ fn.ntmps)
    (w : World) (b : Nat) (hcs : VarAt E w b cs) (h0 : sizes cs ≠ 0) (hwk : ∀ w', Ext w w' → C.wok w' := by intros; exact True.intro) :
    Calls P f #[pv b off] w fun e w' => ∃ β v, e = .returned v ∧ (toAV (T.pick E)).holds E β w' v ∧ Ext w w' := by
  unfold funR at hT
  split at hT
  · rename_i c hb
    refine calls_of_wp hf hb ?_
    refine exec_sound (B := w.heap.size) (w0 := w) (n := fn.ntmps) hm ⟨hC, hwk⟩ c _ _ G _ T _ w hG ⟨fun _ => b, ?_⟩ hT ?_
    · refine ⟨fun t x hx => ?_, fun x ds h => ?_, fun x y hx hy _ => ?_, fun t x off' h => ?_, ?_, rfl, Nat.le_refl _, Below.refl _ _, fun x ds h => ?_⟩
      · simp only at hx
        split at hx
        · rename_i ht
          injection hx with hx
          subst hx ht
          show Array.getD _ 0 _ = pv b off
          rw [Array.getD_eq_getD_getElem?, Array.getElem?_append_left (by simp)]
          simp
        · cases hx
      · simp only at h
        split at h
        · rename_i hx
          injection h with h
          subst h
          exact ⟨fun hlt => absurd hlt (by omega), hcs⟩
        · cases h
      · simp only at hx hy
        split at hx
        · split at hy
          · rename_i e1 e2; rw [e1, e2]
          · cases hy
        · cases hx
      · simp only at h
        split at h
        · injection h with h
          injection h with h1 h2
          subst h1
          simp
        · cases h
      · simp; omega
      · simp only at h
        split at h
        · injection h with h; subst h; exact h0
        · cases h
    · intro G' S' e T' h1 h2 h3 a' w' h4'
      have fin : (resE C S' fn.results.toList).map Tree.leaf = some T' → a'.defers = [] ∧ ∃ v, (results fn a'.tmps).run P w' = .ok v w' ∧ (∃ β v', Ending.returned v = .returned v' ∧ (toAV (T.pick E)).holds E β w' v' ∧ Ext w w') := by
        intro hh
        obtain ⟨l, hl, rfl⟩ := Option.map_eq_some_iff.1 hh
        obtain ⟨β, v, r1, r2⟩ := resE_sound hC h4' (fn := fn) (rs := fn.results.toList) (by simp) h4 hl
        obtain ⟨β', hS⟩ := h4'
        exact ⟨hS.nd, v, r1, β, v, rfl, by rw [h3]; exact r2, hS.bl⟩
      cases e with
      | norm => exact fin h1
      | ret => exact fin h1
      | exit id => cases h1
  · cases hT
end

end Go.Proofs.YtdblkeeicmncfaaGreat
end
