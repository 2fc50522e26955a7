package tests

import (
	"fmt"
	"math/big"
	"slices"
	"testing"

	"loop.example/g03221/impl"
)

// eachCase gives check persons, customs and years by chance of many families.
func eachCase(t *testing.T, seed uint64, check func(f impl.Family, x impl.Custom, p int, year int, label string)) {
	t.Helper()
	r := newChance(seed)
	for _, f := range successionFamilies(t, r, 20) {
		for range 12 * min(1, len(f.People)) {
			x, p, year := chanceCustom(r), r.IntN(len(f.People)), chanceYear(r, f)
			check(f, x, p, year, fmt.Sprintf("%v %v %d %d", f, x, p, year))
		}
	}
}

func isListedOnce(list []int) bool {
	sorted := slices.Clone(list)
	slices.Sort(sorted)
	return len(slices.Compact(sorted)) == len(list)
}

// TestP10HeirsAreAlive: they are alive and kin, and listed once, first those below the person.
func TestP10HeirsAreAlive(t *testing.T) {
	heirs := 0
	eachCase(t, 197, func(f impl.Family, x impl.Custom, p int, year int, label string) {
		below, order := impl.HeirsBelow(f, x, p, year), impl.SuccessionOrder(f, x, p, year)
		expect(t, isListedOnce(order) && !slices.Contains(order, p), true, "SuccessionOrder %s: %v", label, order)
		expect(t, order[:min(len(order), len(below))], below, "SuccessionOrder %s begins with HeirsBelow", label)
		for _, q := range order {
			_, isKin := impl.CivilDegree(f, p, q)
			expect(t, isKin && impl.IsAlive(f, q, year), true, "the heir %d: %s", q, label)
			expect(t, x.Prefer == impl.OnlyMen && f.People[q].Sex != impl.Man, false, "the heir %d is a man: %s", q, label)
			expect(t, x.Prefer == impl.OnlyWomen && f.People[q].Sex != impl.Woman, false, "the heir %d is a woman: %s", q, label)
			heirs++
		}
		descendants := impl.DescendantsOf(f, p)
		expect(t, isWithin(below, descendants), true, "HeirsBelow %s: %v", label, below)
		heir, ok := impl.HeirOf(f, x, p, year)
		expect(t, ok, len(order) > 0, "HeirOf %s succeeds", label)
		expect(t, []int{heir}, append(slices.Clone(order), 0)[:1], "HeirOf %s", label)
	})
	if heirs < 3000 {
		t.Errorf("%d heirs", heirs)
	}
}

// TestP10AllWhoAreAlive: by representation, all descendants who are alive are heirs, of both sexes or of one line.
func TestP10AllWhoAreAlive(t *testing.T) {
	eachCase(t, 198, func(f impl.Family, x impl.Custom, p int, year int, label string) {
		x.Represent = true
		want := []int{}
		for _, q := range impl.DescendantsOf(f, p) {
			if impl.IsAlive(f, q, year) && (x.Prefer < impl.OnlyMen || isInLine(f, x, p, q)) {
				want = append(want, q)
			}
		}
		all := impl.HeirsBelow(f, x, p, year)
		slices.Sort(all)
		expect(t, all, want, "HeirsBelow %s by representation", label)
		x.Represent = false
		expect(t, isWithin(impl.HeirsBelow(f, x, p, year), want), true, "HeirsBelow %s without representation", label)
	})
}

// isInLine reports whether only persons of one sex lead from p down to q.
func isInLine(f impl.Family, x impl.Custom, p int, q int) bool {
	for q != p && q != -1 {
		if f.People[q].Sex != x.Prefer-impl.OnlyMen+1 {
			return false
		}
		parents := []int{f.People[q].Father, f.People[q].Mother}
		// The first step down may be made from a person of either sex.
		if slices.Contains(parents, p) {
			return true
		}
		q = parents[x.Prefer-impl.OnlyMen]
	}
	return q == p
}

// TestP10OneOrder: by representation, there is one order of all kin for all years, of which those remain who are alive.
func TestP10OneOrder(t *testing.T) {
	eachCase(t, 199, func(f impl.Family, x impl.Custom, p int, year int, label string) {
		x.Represent = true
		immortal := copyOf(f)
		immortal.Unions = nil
		for q := range immortal.People {
			immortal.People[q].Died = -1
		}
		all := impl.SuccessionOrder(immortal, x, p, highest)
		living := slices.DeleteFunc(all, func(q int) bool { return !impl.IsAlive(f, q, year) })
		expect(t, impl.SuccessionOrder(f, x, p, year), living, "SuccessionOrder %s", label)
	})
}

// TestP10Places: the heirs below the children follow in their order, and behind those below a person, the order of the parent goes on.
func TestP10Places(t *testing.T) {
	eachCase(t, 200, func(f impl.Family, x impl.Custom, p int, year int, label string) {
		list := []int{}
		for _, child := range impl.OrderChildren(f, x, p) {
			if impl.IsAlive(f, child, year) {
				list = append(list, child)
			} else if !x.Represent {
				continue
			}
			list = append(list, impl.HeirsBelow(f, x, child, year)...)
		}
		below, order := impl.HeirsBelow(f, x, p, year), impl.SuccessionOrder(f, x, p, year)
		expect(t, below, onceEach(list, -1), "HeirsBelow %s", label)
		way := wantWayUp(f, x, p)
		if len(way) == 1 {
			expect(t, order, below, "SuccessionOrder %s", label)
			return
		}
		// The order of the parent is without the parent, who may be an heir.
		parent := way[1]
		list = slices.Concat(below, impl.HeirsBelow(f, x, parent, year), impl.SuccessionOrder(f, x, parent, year))
		expect(t, onceEach(order, parent), onceEach(onceEach(list, p), parent), "SuccessionOrder %s", label)
	})
}

// TestP10OrderOfChildren: the groups are the children, and to begin with the youngest turns each group round.
func TestP10OrderOfChildren(t *testing.T) {
	eachCase(t, 201, func(f impl.Family, x impl.Custom, p int, year int, label string) {
		all := impl.ChildrenOf(f, p)
		expect(t, impl.OrderChildren(f, impl.Custom{Represent: x.Represent}, p), all, "OrderChildren %s of any sex", label)
		men, women := impl.OrderChildren(f, impl.Custom{Prefer: impl.OnlyMen, Youngest: x.Youngest}, p), impl.OrderChildren(f, impl.Custom{Prefer: impl.OnlyWomen, Youngest: x.Youngest}, p)
		expect(t, impl.OrderChildren(f, impl.Custom{Prefer: impl.PreferMen, Youngest: x.Youngest}, p), slices.Concat(men, women), "OrderChildren %s with the men first", label)
		expect(t, impl.OrderChildren(f, impl.Custom{Prefer: impl.PreferWomen, Youngest: x.Youngest}, p), slices.Concat(women, men), "OrderChildren %s with the women first", label)
		expect(t, len(men)+len(women), len(all), "OrderChildren %s of one sex", label)
		for _, group := range [][]int{men, women, impl.OrderChildren(f, impl.Custom{Youngest: x.Youngest}, p)} {
			for i := range len(group) - 1 {
				expect(t, impl.IsElder(f, group[i], group[i+1]), !x.Youngest, "OrderChildren %s: %v", label, group)
			}
		}
	})
}

// TestP10HoldersFollowEachOther: each holder is the heir of the one before in the year of the death, and alive then.
func TestP10HoldersFollowEachOther(t *testing.T) {
	count := map[bool]int{}
	eachCase(t, 202, func(f impl.Family, x impl.Custom, p int, year int, label string) {
		holders := impl.HoldersOf(f, x, p)
		expect(t, holders[0], impl.Holder{Person: p, From: f.People[p].Born}, "the first of HoldersOf %s", label)
		people := []int{}
		for i, h := range holders {
			people = append(people, h.Person)
			died := f.People[h.Person].Died
			heir, ok := 0, false
			if died != -1 {
				heir, ok = impl.HeirOf(f, x, h.Person, died)
			}
			expect(t, ok, i < len(holders)-1, "HoldersOf %s go on behind %v", label, h)
			if ok && i < len(holders)-1 {
				expect(t, holders[i+1], impl.Holder{Person: heir, From: died}, "HoldersOf %s behind %v", label, h)
				expect(t, impl.IsAlive(f, heir, died), true, "HoldersOf %s: %v is alive", label, heir)
			}
			count[ok]++
		}
		expect(t, isListedOnce(people), true, "HoldersOf %s: %v", label, people)
	})
	if count[true] < 500 || count[false] < 500 {
		t.Errorf("holders who are followed or not: %v", count)
	}
}

// TestP10SharesAddUpToOne: or there are none, and then all kin is dead or not born.
func TestP10SharesAddUpToOne(t *testing.T) {
	count := map[bool]int{}
	eachCase(t, 203, func(f impl.Family, x impl.Custom, p int, year int, label string) {
		sum := new(big.Rat)
		shares := impl.SharesOf(f, p, year)
		for i, s := range shares {
			part := big.NewRat(int64(s.Num), int64(s.Den))
			good := s.Num > 0 && part.Num().Int64() == int64(s.Num) && part.Denom().Int64() == int64(s.Den)
			expect(t, good && (i == 0 || shares[i-1].Person < s.Person), true, "SharesOf %s: %v", label, shares)
			_, isKin := impl.CivilDegree(f, p, s.Person)
			expect(t, isKin && s.Person != p && impl.IsAlive(f, s.Person, year), true, "SharesOf %s: %v is alive", label, s)
			sum.Add(sum, part)
		}
		hasKin := slices.ContainsFunc(allPeople(f), func(q int) bool {
			return q != p && impl.IsAlive(f, q, year) && len(impl.CommonAncestors(f, p, q)) > 0
		})
		count[hasKin]++
		if hasKin {
			expect(t, sum.RatString(), "1", "the sum of SharesOf %s: %v", label, shares)
		} else {
			expect(t, len(shares), 0, "SharesOf %s without kin: %v", label, shares)
		}
	})
	if count[true] < 500 || count[false] < 300 {
		t.Errorf("with kin or not: %v", count)
	}
}

func allPeople(f impl.Family) []int {
	list := []int{}
	for p := range f.People {
		list = append(list, p)
	}
	return list
}

// TestP10SharesOfDescendants: as long as a descendant is alive, nobody else has a share, and each child's place has as much as any other.
func TestP10SharesOfDescendants(t *testing.T) {
	below := 0
	eachCase(t, 204, func(f impl.Family, x impl.Custom, p int, year int, label string) {
		descendants := impl.DescendantsOf(f, p)
		alive := slices.ContainsFunc(descendants, func(q int) bool { return impl.IsAlive(f, q, year) })
		if !alive {
			return
		}
		below++
		kept := map[int]*big.Rat{}
		places := 0
		add := func(q int, part *big.Rat) {
			if kept[q] == nil {
				kept[q] = new(big.Rat)
			}
			kept[q].Add(kept[q], part)
		}
		// The share of a child's place is that of the child, or that of the child's own estate.
		for _, child := range impl.ChildrenOf(f, p) {
			if impl.IsAlive(f, child, year) {
				add(child, big.NewRat(1, 1))
				places++
				continue
			}
			if len(impl.HeirsBelow(f, impl.Custom{Represent: true}, child, year)) == 0 {
				continue
			}
			places++
			for _, s := range impl.SharesOf(f, child, year) {
				add(s.Person, big.NewRat(int64(s.Num), int64(s.Den)))
			}
		}
		shares := impl.SharesOf(f, p, year)
		expect(t, len(shares), len(kept), "SharesOf %s: %v", label, shares)
		for _, s := range shares {
			expect(t, slices.Contains(descendants, s.Person), true, "SharesOf %s: %v is a descendant", label, s)
			if kept[s.Person] != nil {
				want := new(big.Rat).Mul(kept[s.Person], big.NewRat(1, int64(places)))
				expect(t, big.NewRat(int64(s.Num), int64(s.Den)).RatString(), want.RatString(), "SharesOf %s: %v", label, s)
			}
		}
	})
	if below < 300 {
		t.Errorf("%d times a descendant is alive", below)
	}
}
