package tests

import (
	"math/rand/v2"
	"testing"

	"loop.example/g03221/impl"
)

// someFamilies returns families in which short types lead to somebody.
func someFamilies(t *testing.T, r *rand.Rand, n int) []impl.Family {
	t.Helper()
	list := []impl.Family{{}, parse(t, house)}
	for range n {
		f := kinFamily(r, 1+r.IntN(12))
		if !impl.IsFamily(f) {
			t.Fatalf("not valid: %v", f)
		}
		list = append(list, f)
	}
	return list
}

// checkReverse: the reverse leads from b to a if the type leads from a to b.
func checkReverse(t *testing.T, f impl.Family, k impl.KinType) {
	t.Helper()
	back, ok := impl.ReverseType(k)
	if !ok {
		t.Fatalf("ReverseType refuses %v", k)
	}
	there, here := impl.RelationFor(f, k), impl.RelationFor(f, back)
	if there.Size != len(f.People) || !isSame(impl.ConverseRelation(there), here) {
		t.Fatalf("%v leads between %v, but its reverse %v between %v, in %v", k, there, back, here, f)
	}
	again, ok := impl.ReverseType(back)
	want := impl.KinType{Ego: wantEgo(k), Steps: k.Steps}
	if !ok || !isSameType(again, want) {
		t.Fatalf("the reverse of the reverse of %v is %v, %v", k, again, ok)
	}
}

func TestP4ReverseIsConverse(t *testing.T) {
	r := newChance(31)
	types := typesUpTo(2)
	for _, f := range someFamilies(t, r, 12) {
		for _, k := range types {
			if wantEgo(k) != 0 || len(k.Steps) == 0 {
				checkReverse(t, f, k)
			}
		}
	}
}

func TestP4ReverseOfLongTypes(t *testing.T) {
	r := newChance(32)
	long, led := 0, 0
	for range 1500 {
		f := kinFamily(r, 2+r.IntN(30))
		k, start := walkedType(r, f, r.IntN(9))
		if len(k.Steps) == 8 {
			long++
		}
		if len(impl.RelativesOf(f, start, k)) > 0 {
			led++
		}
		checkReverse(t, f, k)
		// Without an Ego, the type has a reverse only if the first step tells the sex.
		k.Ego = 0
		if wantEgo(k) != 0 {
			checkReverse(t, f, k)
		}
	}
	expect(t, led, 1500, "types that lead to somebody")
	if long < 100 {
		t.Errorf("%d types have eight steps", long)
	}
}

// checkJoin: who is reached by the joined type is reached by the one and then by the other.
func checkJoin(t *testing.T, f impl.Family, k impl.KinType, u impl.KinType) bool {
	t.Helper()
	joined, ok := impl.JoinTypes(k, u)
	if !ok {
		return false
	}
	got := impl.RelationFor(f, joined)
	want := impl.ComposeRelations(impl.RelationFor(f, k), impl.RelationFor(f, u))
	if got.Size != len(f.People) || !isSame(got, want) {
		t.Fatalf("%v and %v joined are %v, which leads between %v, not %v, in %v", k, u, joined, got, want, f)
	}
	return true
}

func TestP4JoinIsComposition(t *testing.T) {
	r := newChance(33)
	types := typesUpTo(1)
	for _, f := range someFamilies(t, r, 12) {
		joined := 0
		for _, k := range types {
			for _, u := range types {
				if checkJoin(t, f, k, u) {
					joined++
				}
			}
		}
		if joined < 500 {
			t.Errorf("%d types are joined", joined)
		}
	}
}

func TestP4JoinsOfLongTypes(t *testing.T) {
	r := newChance(34)
	for range 1500 {
		f := kinFamily(r, 2+r.IntN(30))
		whole, _ := walkedType(r, f, r.IntN(9))
		cut := r.IntN(len(whole.Steps) + 1)
		k := impl.KinType{Ego: whole.Ego, Steps: whole.Steps[:cut]}
		u := impl.KinType{Ego: wantSex(k), Steps: whole.Steps[cut:]}
		if !checkJoin(t, f, k, u) {
			t.Fatalf("JoinTypes refuses %v and %v", k, u)
		}
		joined, _ := impl.JoinTypes(k, u)
		if !isSameType(joined, whole) {
			t.Fatalf("%v and %v joined are %v", k, u, joined)
		}
		// The way back of the whole is the way back of the second part and then of the first.
		backK, _ := impl.ReverseType(k)
		backU, _ := impl.ReverseType(u)
		back, _ := impl.ReverseType(whole)
		joined, ok := impl.JoinTypes(backU, backK)
		if !ok || !isSameType(joined, back) {
			t.Fatalf("the reverses of %v and %v joined are %v, %v", u, k, joined, ok)
		}
	}
}

// TestP4JoinsOfThree: it does not matter which two of three types are joined first.
func TestP4JoinsOfThree(t *testing.T) {
	types := append(typesUpTo(1), kinType(t, "FZ"), kinType(t, "w:HyB"), kinType(t, "FMFMFMF"), kinType(t, "m:MFMFMFM"))
	for _, k := range types {
		for _, u := range types {
			for _, v := range types {
				first, okFirst := impl.JoinTypes(k, u)
				left, okLeft := impl.JoinTypes(first, v)
				last, okLast := impl.JoinTypes(u, v)
				right, okRight := impl.JoinTypes(k, last)
				if okFirst && okLeft && okLast && okRight && !isSameType(left, right) {
					t.Fatalf("%v, %v and %v joined are %v or %v", k, u, v, left, right)
				}
			}
		}
	}
}

// checkShortest holds all types between two persons against the shortest one.
func checkShortest(t *testing.T, f impl.Family, a int, b int) {
	t.Helper()
	short, ok := impl.ShortestType(f, a, b)
	if ok && (short.Ego != f.People[a].Sex || !wantTable(f, short)[a][b]) {
		t.Fatalf("ShortestType %d %d of %v: %v does not lead there", a, b, f, short)
	}
	for n := 1; n <= impl.MaxListed; n++ {
		listed := impl.TypesBetween(f, a, b, n)
		for _, k := range listed {
			if !ok || len(k.Steps) < len(short.Steps) {
				t.Fatalf("ShortestType %d %d of %v: %v, but %v is listed", a, b, f, short, k)
			}
		}
		within := ok && len(short.Steps) > 0 && len(short.Steps) <= n
		if within && (len(listed) == 0 || !isSameType(listed[0], short)) {
			t.Fatalf("ShortestType %d %d of %v: %v is not the first of %v", a, b, f, short, listed)
		}
		if a != b && !within && len(listed) > 0 {
			t.Fatalf("TypesBetween %d %d %d of %v: %v, but the shortest one is %v", a, b, n, f, listed, short)
		}
	}
}

func TestP4NoListedTypeIsShorter(t *testing.T) {
	r := newChance(35)
	for _, f := range append(someFamilies(t, r, 25), kinFamily(r, 20)) {
		for a := range f.People {
			for b := range f.People {
				checkShortest(t, f, a, b)
			}
		}
	}
}

// TestP4ShortestBothWays: the way back has as many steps.
func TestP4ShortestBothWays(t *testing.T) {
	r := newChance(36)
	for _, f := range someFamilies(t, r, 25) {
		for a := range f.People {
			for b := range a {
				there, ok := impl.ShortestType(f, a, b)
				back, okBack := impl.ShortestType(f, b, a)
				expect(t, okBack, ok, "ShortestType %d %d of %v both ways", a, b, f)
				expect(t, len(back.Steps), len(there.Steps), "ShortestType %d %d of %v both ways", a, b, f)
			}
		}
	}
}
