package tests

import (
	"fmt"
	"math/rand/v2"
	"slices"
	"testing"

	"loop.example/g03221/impl"
)

// The functions below say again, in the plainest way, what the document says of descent.

func wantLineParent(f impl.Family, p int, sex int) int {
	if sex == impl.Man {
		return f.People[p].Father
	}
	return f.People[p].Mother
}

func wantFounder(f impl.Family, p int, sex int) int {
	if q := wantLineParent(f, p, sex); q != -1 {
		return wantFounder(f, q, sex)
	}
	return p
}

// wantLines asks for each person who is a founder.
func wantLines(f impl.Family, sex int) [][]int {
	lines := [][]int{}
	for founder := range f.People {
		line := []int{}
		for p := range f.People {
			if wantFounder(f, p, sex) == founder {
				line = append(line, p)
			}
		}
		if len(line) > 0 {
			lines = append(lines, line)
		}
	}
	return lines
}

// wantDouble makes a group for each person who is the first one of it.
func wantDouble(f impl.Family) [][]int {
	groups := [][]int{}
	for first := range f.People {
		group := []int{}
		for p := range f.People {
			if wantFounder(f, p, 1) == wantFounder(f, first, 1) && wantFounder(f, p, 2) == wantFounder(f, first, 2) {
				group = append(group, p)
			}
		}
		if group[0] == first {
			groups = append(groups, group)
		}
	}
	return groups
}

func wantExogamous(f impl.Family, groups []int) bool {
	if !wantFamily(f) || len(groups) != len(f.People) {
		return false
	}
	for _, u := range f.Unions {
		if groups[u.Man] == groups[u.Woman] {
			return false
		}
	}
	return true
}

// wantErrors relies on all arguments being valid.
func wantErrors(f impl.Family, c impl.Classes, list []int) []int {
	wrong := []int{}
	for i, p := range f.People {
		bad := p.Father != -1 && list[i] != c.Child[list[p.Father]]
		if p.Mother != -1 && list[i] != c.Child[slices.Index(c.Wife, list[p.Mother])] {
			bad = true
		}
		for _, u := range f.Unions {
			if u.Woman == i && list[i] != c.Wife[list[u.Man]] {
				bad = true
			}
		}
		if bad {
			wrong = append(wrong, i)
		}
	}
	return wrong
}

func areMoieties(f impl.Family, sex int, list []int) bool {
	for p := range f.People {
		if list[p] != list[wantFounder(f, p, sex)] {
			return false
		}
	}
	return wantExogamous(f, list)
}

// firstOfAll goes through all lists of numbers below n, in order, and returns the first one that is wanted.
func firstOfAll(size int, n int, wanted func(list []int) bool) ([]int, bool) {
	list := make([]int, size)
	for {
		if wanted(list) {
			return list, true
		}
		i := size - 1
		for ; i >= 0 && list[i] == n-1; i-- {
			list[i] = 0
		}
		if i < 0 {
			return nil, false
		}
		list[i]++
	}
}

func agrees(list []int, given []int) bool {
	for i, x := range given {
		if x != -1 && x != list[i] {
			return false
		}
	}
	return true
}

// The model of larger families: what follows from a number is filled in until nothing more follows.

// A follower: the number of b is to[x] where x is that of a.
type follower struct {
	a, b int
	to   []int
}

func followersByClasses(f impl.Family, c impl.Classes) []follower {
	list := []follower{}
	ofMother := make([]int, len(c.Wife))
	for x, wife := range c.Wife {
		ofMother[wife] = c.Child[x]
	}
	for i, p := range f.People {
		if p.Father != -1 {
			list = append(list, follower{p.Father, i, c.Child})
		}
		if p.Mother != -1 {
			list = append(list, follower{p.Mother, i, ofMother})
		}
	}
	for _, u := range f.Unions {
		list = append(list, follower{u.Man, u.Woman, c.Wife})
	}
	return list
}

func followersByMoieties(f impl.Family, sex int) []follower {
	list := []follower{}
	for i := range f.People {
		if q := wantLineParent(f, i, sex); q != -1 {
			list = append(list, follower{q, i, []int{0, 1}})
		}
	}
	for _, u := range f.Unions {
		list = append(list, follower{u.Woman, u.Man, []int{1, 0}})
	}
	return list
}

// follow fills in what follows, and tells whether nothing contradicts it.
func follow(followers []follower, list []int) bool {
	for changed := true; changed; {
		changed = false
		for _, l := range followers {
			switch {
			case list[l.a] != -1 && list[l.b] == -1:
				list[l.b], changed = l.to[list[l.a]], true
			case list[l.a] == -1 && list[l.b] != -1:
				list[l.a], changed = slices.Index(l.to, list[l.b]), true
			case list[l.a] != -1 && list[l.b] != l.to[list[l.a]]:
				return false
			}
		}
	}
	return true
}

func wantNumbers(followers []follower, given []int, n int) ([]int, bool) {
	list := slices.Clone(given)
	if !follow(followers, list) {
		return nil, false
	}
	for i := range list {
		for x := 0; list[i] == -1; x++ {
			if x == n {
				return nil, false
			}
			next := slices.Clone(list)
			next[i] = x
			if follow(followers, next) {
				list = next
			}
		}
	}
	return list, true
}

// Families and classes made by chance.

// classedFamily returns a family that marries by classes, and the class of each person.
func classedFamily(r *rand.Rand, c impl.Classes, n int) (impl.Family, []int) {
	var f impl.Family
	classes := []int{}
	for i := range n {
		p := impl.Person{Name: chanceName(r, i), Sex: 1 + r.IntN(2), Father: -1, Mother: -1, Born: r.IntN(3), Died: -1}
		class := r.IntN(len(c.Wife))
		if len(f.Unions) > 0 && r.IntN(6) > 0 {
			u := f.Unions[r.IntN(len(f.Unions))]
			p.Born = 1 + max(f.People[u.Man].Born, f.People[u.Woman].Born) + r.IntN(3)
			p.Father, p.Mother = []int{u.Man, u.Man, u.Man, -1}[r.IntN(4)], []int{u.Woman, u.Woman, u.Woman, -1}[r.IntN(4)]
			class = c.Child[classes[u.Man]]
		}
		f.People, classes = append(f.People, p), append(classes, class)
		if wantDepth(f, i) > 10 {
			f.People[i].Father, f.People[i].Mother = -1, -1
		}
		for range r.IntN(8) {
			addChanceUnion(r, &f)
			if k := len(f.Unions) - 1; k >= 0 && classes[f.Unions[k].Woman] != c.Wife[classes[f.Unions[k].Man]] {
				f.Unions = f.Unions[:k]
			}
		}
	}
	return f, classes
}

// opened returns the list with -1 in place of some numbers.
func opened(r *rand.Rand, list []int) []int {
	open := slices.Clone(list)
	share := 1 + r.IntN(8)
	for i := range open {
		if r.IntN(share) > 0 {
			open[i] = -1
		}
	}
	return open
}

func numbersBelow(r *rand.Rand, size int, n int) []int {
	list := []int{}
	for range size {
		list = append(list, r.IntN(n))
	}
	return list
}

func allOpen(n int) []int { return slices.Repeat([]int{-1}, n) }

// notSexes has numbers that are neither Man nor Woman.
func notSexes() []int { return []int{lowest, -2, -1, 0, 3, 4, 257, 258, highest} }

// without returns the house without one of its unions.
func without(t *testing.T, union string) impl.Family {
	t.Helper()
	f := parse(t, house)
	kept := slices.DeleteFunc(copyOf(f).Unions, func(u impl.Union) bool {
		return f.People[u.Man].Name+" "+f.People[u.Woman].Name == union
	})
	if len(kept) != len(f.Unions)-1 {
		t.Fatalf("the house has no union %s", union)
	}
	return impl.Family{People: f.People, Unions: kept}
}

func notNumber(t *testing.T, list []int, ok bool, label string, args ...any) {
	t.Helper()
	expect(t, !ok && len(list) == 0, true, "no list, but %v, %v: %s", list, ok, fmt.Sprintf(label, args...))
}
