package tests

import (
	"math/big"
	"math/rand/v2"
	"slices"
	"testing"

	"loop.example/g03221/impl"
)

// The functions below say again, in the plainest way, what the document says of succession and shares.

func wantCustom(x impl.Custom) bool { return x.Prefer >= 0 && x.Prefer <= 4 }

func wantCustomText(x impl.Custom) string {
	if !wantCustom(x) {
		return ""
	}
	text := []string{"any", "men", "women", "only men", "only women"}[x.Prefer]
	if x.Youngest {
		text += " youngest"
	}
	if x.Represent {
		text += " represent"
	}
	return text
}

func wantAlive(f impl.Family, p int, year int) bool {
	x := f.People[p]
	return x.Born <= year && (x.Died == -1 || x.Died > year)
}

func isParent(f impl.Family, p int, q int) bool { return slices.Contains(wantParents(f, q), p) }

func wantOrdered(f impl.Family, x impl.Custom, p int) []int {
	all := wantByAge(f, func(q int) bool { return isParent(f, p, q) })
	if x.Youngest {
		slices.Reverse(all)
	}
	men, women := []int{}, []int{}
	for _, q := range all {
		if f.People[q].Sex == 1 {
			men = append(men, q)
		} else {
			women = append(women, q)
		}
	}
	return [][]int{all, slices.Concat(men, women), slices.Concat(women, men), men, women}[x.Prefer]
}

// allBelow lists each heir as often as there are lines to the heir.
func allBelow(f impl.Family, x impl.Custom, p int, year int) []int {
	list := []int{}
	for _, q := range wantOrdered(f, x, p) {
		if f.People[q].Born > year {
			continue
		}
		if wantAlive(f, q, year) {
			list = append(list, q)
		} else if !x.Represent {
			continue
		}
		list = append(list, allBelow(f, x, q, year)...)
	}
	return list
}

// onceEach keeps the first of the places of each person, and none of the person who is left out.
func onceEach(list []int, leftOut int) []int {
	once := []int{}
	for _, q := range list {
		if q != leftOut && !slices.Contains(once, q) {
			once = append(once, q)
		}
	}
	return once
}

func wantBelow(f impl.Family, x impl.Custom, p int, year int) []int {
	return onceEach(allBelow(f, x, p, year), -1)
}

// wantWayUp begins with p.
func wantWayUp(f impl.Family, x impl.Custom, p int) []int {
	way := []int{}
	for p != -1 {
		way = append(way, p)
		father, mother := f.People[p].Father, f.People[p].Mother
		switch {
		case x.Prefer == 3:
			p = father
		case x.Prefer == 4:
			p = mother
		case father != -1:
			p = father
		default:
			p = mother
		}
	}
	return way
}

func wantSuccession(f impl.Family, x impl.Custom, p int, year int) []int {
	list := []int{}
	for _, q := range wantWayUp(f, x, p) {
		list = append(list, allBelow(f, x, q, year)...)
	}
	return onceEach(list, p)
}

func wantHeir(f impl.Family, x impl.Custom, p int, year int) (int, bool) {
	list := wantSuccession(f, x, p, year)
	if len(list) == 0 {
		return 0, false
	}
	return list[0], true
}

func wantHolders(f impl.Family, x impl.Custom, p int) []impl.Holder {
	list := []impl.Holder{{Person: p, From: f.People[p].Born}}
	for f.People[p].Died != -1 {
		year := f.People[p].Died
		heir, ok := wantHeir(f, x, p, year)
		if !ok {
			break
		}
		list = append(list, impl.Holder{Person: heir, From: year})
		p = heir
	}
	return list
}

// An estate is that of p, and takes says of each person whether the person takes part.
type estate struct {
	f     impl.Family
	p     int
	year  int
	takes []bool
}

func estateOf(f impl.Family, p int, year int) estate {
	e := estate{f: f, p: p, year: year}
	for q := range f.People {
		e.takes = append(e.takes, e.takesPart(q))
	}
	return e
}

func (e estate) takesPart(q int) bool {
	if q == e.p || e.f.People[q].Born > e.year {
		return false
	}
	if wantAlive(e.f, q, e.year) {
		return true
	}
	for child := range e.f.People {
		if isParent(e.f, q, child) && e.takesPart(child) {
			return true
		}
	}
	return false
}

func (e estate) takers(list []int) []int {
	return slices.DeleteFunc(slices.Clone(list), func(q int) bool { return !e.takes[q] })
}

func (e estate) children(q int) []int {
	return e.takers(wantByAge(e.f, func(child int) bool { return isParent(e.f, q, child) }))
}

// generationAbove counts each parent once.
func (e estate) generationAbove(generation []int) []int {
	parents := []int{}
	for _, q := range generation {
		parents = append(parents, wantParents(e.f, q)...)
	}
	return onceEach(parents, -1)
}

func (e estate) first() []int {
	first := e.children(e.p)
	for generation := []int{e.p}; len(first) == 0 && len(generation) > 0; {
		generation = e.generationAbove(generation)
		first = e.takers(generation)
	}
	return first
}

// divide divides a part among persons, and what comes to those who are not alive among their children.
func (e estate) divide(part *big.Rat, people []int, kept map[int]*big.Rat) {
	each := new(big.Rat).Mul(part, big.NewRat(1, int64(max(1, len(people)))))
	for _, q := range people {
		switch {
		case !wantAlive(e.f, q, e.year):
			e.divide(each, e.children(q), kept)
		case kept[q] == nil:
			kept[q] = each
		default:
			kept[q] = new(big.Rat).Add(kept[q], each)
		}
	}
}

func wantShares(f impl.Family, p int, year int) []impl.Share {
	e := estateOf(f, p, year)
	kept := map[int]*big.Rat{}
	e.divide(big.NewRat(1, 1), e.first(), kept)
	list := []impl.Share{}
	for q := range f.People {
		if kept[q] != nil {
			list = append(list, impl.Share{Person: q, Num: int(kept[q].Num().Int64()), Den: int(kept[q].Denom().Int64())})
		}
	}
	return list
}

// Customs and families.

func allCustoms() []impl.Custom {
	list := []impl.Custom{}
	for prefer := range 5 {
		for k := range 4 {
			list = append(list, impl.Custom{Prefer: prefer, Youngest: k%2 == 1, Represent: k/2 == 1})
		}
	}
	return list
}

func chanceCustom(r *rand.Rand) impl.Custom {
	return impl.Custom{Prefer: r.IntN(5), Youngest: r.IntN(2) == 0, Represent: r.IntN(2) == 0}
}

func notCustoms() []impl.Custom {
	list := []impl.Custom{}
	for _, prefer := range []int{lowest, lowest + 1, -256, -2, -1, 5, 6, 255, 256, 260, 1 << 32, 1<<32 + 1, highest} {
		list = append(list, impl.Custom{Prefer: prefer}, impl.Custom{Prefer: prefer, Youngest: true}, impl.Custom{Prefer: prefer, Represent: true}, impl.Custom{Prefer: prefer, Youngest: true, Represent: true})
	}
	return list
}

func custom(t *testing.T, text string) impl.Custom {
	t.Helper()
	x, ok := impl.ParseCustom(text)
	if !ok {
		t.Fatalf("ParseCustom refuses %q", text)
	}
	return x
}

// withDeaths lets persons die, some soon after the last year in which they are needed and some later.
func withDeaths(r *rand.Rand, f impl.Family) impl.Family {
	f = copyOf(f)
	for p := range f.People {
		last := f.People[p].Born
		for _, x := range f.People {
			if x.Father == p || x.Mother == p {
				last = max(last, x.Born)
			}
		}
		for _, u := range f.Unions {
			if u.Man == p || u.Woman == p {
				last = max(last, u.From, u.To)
			}
		}
		f.People[p].Died = -1
		if r.IntN(4) > 0 {
			f.People[p].Died = last + r.IntN(20)
		}
	}
	return f
}

// brothers has a brother and a sister in each generation, who are dead, and are the parents of the next ones: they have another son too,
// and he one more by nobody who is known. In the last generation, there are a son of both and a son of his.
func brothers(generations int) impl.Family {
	var f impl.Family
	father, mother := addChild(&f, 1, -1, -1), addChild(&f, 2, -1, -1)
	for range generations - 1 {
		brother, sister := addChild(&f, 1, father, mother), addChild(&f, 2, father, mother)
		addChild(&f, 1, father, mother)
		addChild(&f, 1, father, -1)
		f.People[father].Died, f.People[mother].Died = 500, 500
		father, mother = brother, sister
	}
	addChild(&f, 1, father, mother)
	addChild(&f, 1, father, -1)
	f.People[father].Died, f.People[mother].Died = 500, 500
	return f
}

// successionFamilies has families of all kinds, and the same with many deaths.
func successionFamilies(t *testing.T, r *rand.Rand, n int) []impl.Family {
	t.Helper()
	list := append(marriageFamilies(t, r, n), parse(t, dynasty), brothers(5))
	for _, f := range list {
		list = append(list, withDeaths(r, f))
	}
	for _, f := range list {
		if !impl.IsFamily(f) {
			t.Fatalf("not valid: %v", f)
		}
	}
	return list
}
