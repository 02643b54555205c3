namespace Go.Proofs.YtdkaoopkbhaheaaGreat
theorem zA {α : Type} {as : List α} {i : Nat} {a : α} : as.toArray.setIfInBounds i a = (as.set i a).toArray := List.setIfInBounds_toArray ..
theorem zB {α : Type} {x y : α} {xs : List α} : (x :: xs).set 0 y = y :: xs := rfl
theorem zC {α : Type} {x y : α} {xs : List α} {i : Nat} : (x :: xs).set (i + 1) y = x :: xs.set i y := rfl
theorem zD {α : Type} {as : List α} {i : Nat} (h : i < as.toArray.size) : as.toArray[i] = as[i]'(by simpa using h) := rfl
theorem zE {α : Type} {a : α} {as : List α} {i : Nat} (h : i + 1 < (a :: as).length) : (a :: as)[i + 1] = as[i]'(Nat.lt_of_succ_lt_succ h) := rfl
theorem zF {α : Type} {a : α} {as : List α} (h : 0 < (a :: as).length) : (a :: as)[0] = a := rfl
end Go.Proofs.YtdkaoopkbhaheaaGreat
