package tests

import (
	"strings"
	"testing"

	"loop.example/g03221/impl"
)

func TestP13PeopleConstants(t *testing.T) {
	got := []int{impl.MaxPeople, impl.MaxUnions, impl.MaxYear, impl.MaxName, impl.MaxDepth, impl.Man, impl.Woman}
	expect(t, got, []int{40, 60, 9999, 12, 10, 1, 2}, "constants")
}

func TestP13IsName(t *testing.T) {
	for _, s := range []string{"a", "z", "adam", "man", "abcdefghijkl"} {
		expect(t, impl.IsName(s), true, "IsName(%q)", s)
	}
	for _, s := range []string{"", "abcdefghijklm", "Adam", "adaM", "a b", "a1", "-", "a-", "`", "{", "é", "aé", "ａ", "a\n", "a\x00", "\xff", "a\xff", strings.Repeat("a", 100000)} {
		expect(t, impl.IsName(s), false, "IsName(%q)", s[:min(len(s), 20)])
	}
	for b := range 256 {
		s := "a" + string([]byte{byte(b)}) + "z"
		expect(t, impl.IsName(s), b >= 'a' && b <= 'z', "IsName(%q)", s)
	}
}

// parentsAnd returns a family of a man, a woman, a union of them, and a child.
func parentsAnd(change func(f *impl.Family)) impl.Family {
	f := impl.Family{
		People: []impl.Person{
			{Name: "adam", Sex: impl.Man, Father: -1, Mother: -1, Born: 10, Died: 50},
			{Name: "eva", Sex: impl.Woman, Father: -1, Mother: -1, Born: 12, Died: 60},
			{Name: "cain", Sex: impl.Man, Father: 0, Mother: 1, Born: 40, Died: -1},
		},
		Unions: []impl.Union{{Man: 0, Woman: 1, From: 30, To: -1}},
	}
	change(&f)
	return f
}

type validityCase struct {
	label  string
	want   bool
	change func(f *impl.Family)
}

func checkValidity(t *testing.T, cases []validityCase) {
	t.Helper()
	for _, c := range cases {
		f := parentsAnd(c.change)
		expect(t, impl.IsFamily(f), c.want, "IsFamily: %s", c.label)
		expect(t, wantFamily(f), c.want, "the test's own rules: %s", c.label)
	}
}

func TestP13IsFamilyPersons(t *testing.T) {
	checkValidity(t, []validityCase{
		{"as it is", true, func(f *impl.Family) {}},
		{"no persons", true, func(f *impl.Family) { *f = impl.Family{} }},
		{"no unions", true, func(f *impl.Family) { f.Unions = []impl.Union{} }},
		{"a name that is none", false, func(f *impl.Family) { f.People[2].Name = "Cain" }},
		{"no name", false, func(f *impl.Family) { f.People[2].Name = "" }},
		{"the same name", false, func(f *impl.Family) { f.People[2].Name = "adam" }},
		{"sex 0", false, func(f *impl.Family) { f.People[2].Sex = 0 }},
		{"sex 3", false, func(f *impl.Family) { f.People[2].Sex = 3 }},
		{"sex -1", false, func(f *impl.Family) { f.People[2].Sex = -1 }},
		{"a daughter", true, func(f *impl.Family) { f.People[2].Sex = impl.Woman }},
		{"born before the year 0", false, func(f *impl.Family) { f.People[0].Born = -1 }},
		{"born in the year 0", true, func(f *impl.Family) { f.People[0].Born = 0 }},
		{"born in the last year", true, func(f *impl.Family) {
			f.People[2] = impl.Person{Name: "x", Sex: 1, Father: -1, Mother: -1, Born: 9999, Died: 9999}
		}},
		{"born after the last year", false, func(f *impl.Family) {
			f.People[2] = impl.Person{Name: "x", Sex: 1, Father: -1, Mother: -1, Born: 10000, Died: -1}
		}},
		{"died in the year of birth", true, func(f *impl.Family) { f.People[2].Died = 40 }},
		{"died before birth", false, func(f *impl.Family) { f.People[2].Died = 39 }},
		{"died in the last year", true, func(f *impl.Family) { f.People[2].Died = 9999 }},
		{"died after the last year", false, func(f *impl.Family) { f.People[2].Died = 10000 }},
		{"died in -2", false, func(f *impl.Family) { f.People[2].Died = -2 }},
		{"died in the highest year", false, func(f *impl.Family) { f.People[0].Died = highest }},
	})
}

func TestP13IsFamilyParents(t *testing.T) {
	checkValidity(t, []validityCase{
		{"no father", true, func(f *impl.Family) { f.People[2].Father = -1 }},
		{"no mother", true, func(f *impl.Family) { f.People[2].Mother = -1 }},
		{"father -2", false, func(f *impl.Family) { f.People[2].Father = -2 }},
		{"mother -2", false, func(f *impl.Family) { f.People[2].Mother = -2 }},
		{"a woman as father", false, func(f *impl.Family) { f.People[2].Father = 1 }},
		{"a man as mother", false, func(f *impl.Family) { f.People[2].Mother = 0 }},
		{"father of oneself", false, func(f *impl.Family) { f.People[2].Father = 2 }},
		{"father who is none", false, func(f *impl.Family) { f.People[2].Father = 3 }},
		{"mother far away", false, func(f *impl.Family) { f.People[2].Mother = highest }},
		{"father far away", false, func(f *impl.Family) { f.People[2].Father = lowest }},
		{"father listed later", false, func(f *impl.Family) { f.People[1].Father, f.People[2].Born, f.People[2].Mother = 2, 5, -1 }},
		{"born in the year of the father's birth", false, func(f *impl.Family) { f.People[0].Born, f.Unions = 40, nil }},
		{"born a year later", true, func(f *impl.Family) { f.People[0].Born, f.Unions = 39, nil }},
		{"born in the year of the mother's birth", false, func(f *impl.Family) { f.People[1].Born, f.Unions = 40, nil }},
		{"born a year after the mother's birth", true, func(f *impl.Family) { f.People[1].Born, f.Unions = 39, nil }},
		{"born in the year after the father's death", true, func(f *impl.Family) { f.People[0].Died = 39 }},
		{"born two years after the father's death", false, func(f *impl.Family) { f.People[0].Died = 38 }},
		{"born in the year of the mother's death", true, func(f *impl.Family) { f.People[1].Died = 40 }},
		{"born in the year after the mother's death", false, func(f *impl.Family) { f.People[1].Died = 39 }},
	})
}

func TestP13IsFamilyUnions(t *testing.T) {
	checkValidity(t, []validityCase{
		{"a union of 60 years", true, func(f *impl.Family) { f.People[0].Died, f.People[1].Died, f.Unions[0].To = -1, -1, 90 }},
		{"a woman as Man", false, func(f *impl.Family) { f.Unions[0].Man = 1 }},
		{"a man as Woman", false, func(f *impl.Family) { f.Unions[0].Woman = 0 }},
		{"man -1", false, func(f *impl.Family) { f.Unions[0].Man = -1 }},
		{"woman -1", false, func(f *impl.Family) { f.Unions[0].Woman = -1 }},
		{"man 3", false, func(f *impl.Family) { f.Unions[0].Man = 3 }},
		{"woman far away", false, func(f *impl.Family) { f.Unions[0].Woman = highest }},
		{"man far away", false, func(f *impl.Family) { f.Unions[0].Man = lowest }},
		{"from the woman's birth", true, func(f *impl.Family) { f.Unions[0].From = 12 }},
		{"before the woman's birth", false, func(f *impl.Family) { f.Unions[0].From = 11 }},
		{"before the man's birth", false, func(f *impl.Family) { f.Unions[0] = impl.Union{Man: 2, Woman: 1, From: 39, To: -1} }},
		{"from the man's birth", true, func(f *impl.Family) { f.Unions[0] = impl.Union{Man: 2, Woman: 1, From: 40, To: -1} }},
		{"from the last year", true, func(f *impl.Family) { f.People[0].Died, f.People[1].Died, f.Unions[0].From = -1, -1, 9999 }},
		{"from after the last year", false, func(f *impl.Family) { f.People[0].Died, f.People[1].Died, f.Unions[0].From = -1, -1, 10000 }},
		{"from the year of the man's death", true, func(f *impl.Family) { f.Unions[0].From = 50 }},
		{"from after the man's death", false, func(f *impl.Family) { f.Unions[0].From = 51 }},
		{"from the year of the woman's death", true, func(f *impl.Family) { f.People[0].Died, f.Unions[0].From = -1, 60 }},
		{"from after the woman's death", false, func(f *impl.Family) { f.People[0].Died, f.Unions[0].From = -1, 61 }},
		{"ended in its first year", true, func(f *impl.Family) { f.Unions[0].To = 30 }},
		{"ended before", false, func(f *impl.Family) { f.Unions[0].To = 29 }},
		{"ended in -2", false, func(f *impl.Family) { f.Unions[0].To = -2 }},
		{"ended in the year of a death", true, func(f *impl.Family) { f.Unions[0].To = 50 }},
		{"ended after a death", false, func(f *impl.Family) { f.Unions[0].To = 51 }},
		{"ended after the woman's death", false, func(f *impl.Family) { f.People[0].Died, f.Unions[0].To = -1, 61 }},
		{"ended in the last year", true, func(f *impl.Family) { f.People[0].Died, f.People[1].Died, f.Unions[0].To = -1, -1, 9999 }},
		{"ended after the last year", false, func(f *impl.Family) { f.People[0].Died, f.People[1].Died, f.Unions[0].To = -1, -1, 10000 }},
		{"the same two again", false, func(f *impl.Family) { f.Unions = append(f.Unions, impl.Union{Man: 0, Woman: 1, From: 31, To: 32}) }},
		{"the same union again", false, func(f *impl.Family) { f.Unions = append(f.Unions, f.Unions[0]) }},
		{"mother and son", true, func(f *impl.Family) { f.Unions = append(f.Unions, impl.Union{Man: 2, Woman: 1, From: 41, To: -1}) }},
	})
}

// chainOf returns n men, each of them the son of the one before.
func chainOf(n int) impl.Family {
	var f impl.Family
	for i := range n {
		f.People = append(f.People, impl.Person{Name: chanceName(newChance(1), i), Sex: impl.Man, Father: i - 1, Mother: -1, Born: i, Died: -1})
	}
	return f
}

func TestP13Depth(t *testing.T) {
	f := chainOf(11)
	expect(t, impl.IsFamily(f), true, "depth 10")
	for i := range 11 {
		expect(t, impl.DepthOf(f, i), i, "DepthOf %d", i)
	}
	g := chainOf(12)
	expect(t, impl.IsFamily(g), false, "depth 11")
	expect(t, impl.DepthOf(g, 3), 0, "depth in a family that is not valid")
	mothers := chainOf(11)
	for i := range mothers.People {
		p := &mothers.People[i]
		p.Sex, p.Father, p.Mother = impl.Woman, -1, p.Father
	}
	expect(t, impl.DepthOf(mothers, 10), 10, "depth by mothers")
}

// crowdOf returns men and women without parents, and unions of different ones of them.
func crowdOf(people int, unions int) impl.Family {
	var f impl.Family
	for i := range people {
		f.People = append(f.People, impl.Person{Name: chanceName(newChance(1), i), Sex: 1 + i%2, Father: -1, Mother: -1, Born: 0, Died: -1})
	}
	for k := range unions {
		f.Unions = append(f.Unions, impl.Union{Man: k % 20 * 2, Woman: k/20*2 + 1, From: 5, To: -1})
	}
	return f
}

func TestP13IsFamilySizes(t *testing.T) {
	expect(t, impl.IsFamily(crowdOf(40, 60)), true, "most persons and unions")
	expect(t, impl.IsFamily(crowdOf(41, 0)), false, "too many persons")
	expect(t, impl.IsFamily(crowdOf(40, 61)), false, "too many unions")
	expect(t, impl.FormatFamily(crowdOf(41, 0)), "", "text of too many persons")
	full := parse(t, impl.FormatFamily(crowdOf(40, 60)))
	expect(t, impl.EqualFamilies(full, crowdOf(40, 60)), true, "the largest family is read back")
	for _, f := range []impl.Family{crowdOf(41, 0), crowdOf(40, 61)} {
		_, ok := impl.ParseFamily(wantText(f))
		expect(t, ok, false, "the text of a family that is too large")
	}
}

// TestP13IsFamilyByChance changes single fields of valid families and holds IsFamily against the plain rules.
func TestP13IsFamilyByChance(t *testing.T) {
	r := newChance(11)
	valid := 0
	for range 20000 {
		f := copyOf(chanceFamily(r))
		if len(f.People) == 0 {
			continue
		}
		fields := []*int{}
		for i := range f.People {
			p := &f.People[i]
			fields = append(fields, &p.Sex, &p.Father, &p.Mother, &p.Born, &p.Died)
		}
		for k := range f.Unions {
			u := &f.Unions[k]
			fields = append(fields, &u.Man, &u.Woman, &u.From, &u.To)
		}
		x := fields[r.IntN(len(fields))]
		values := []int{*x + 1, *x - 1, *x + 2, *x - 2, -1, r.IntN(45), lowest, highest, 10000}
		*x = values[r.IntN(len(values))]
		want := wantFamily(f)
		if got := impl.IsFamily(f); got != want {
			t.Fatalf("IsFamily: got %v, want %v, of %v", got, want, f)
		}
		if want {
			valid++
		}
	}
	if valid < 1000 || valid > 19000 {
		t.Errorf("%d of the families are valid", valid)
	}
}

func TestP13EqualFamilies(t *testing.T) {
	changes := []func(f *impl.Family){
		func(f *impl.Family) { f.People[0].Name = "noah" },
		func(f *impl.Family) { f.People[0].Sex = 2 },
		func(f *impl.Family) { f.People[0].Father = 5 },
		func(f *impl.Family) { f.People[0].Mother = 5 },
		func(f *impl.Family) { f.People[0].Born++ },
		func(f *impl.Family) { f.People[0].Died++ },
		func(f *impl.Family) { f.Unions[0].Man++ },
		func(f *impl.Family) { f.Unions[0].Woman++ },
		func(f *impl.Family) { f.Unions[0].From++ },
		func(f *impl.Family) { f.Unions[0].To++ },
		func(f *impl.Family) { f.People = f.People[:2] },
		func(f *impl.Family) { f.Unions = nil },
	}
	same := func(f *impl.Family) {}
	expect(t, impl.EqualFamilies(parentsAnd(same), parentsAnd(same)), true, "equal")
	for i, change := range changes {
		expect(t, impl.EqualFamilies(parentsAnd(same), parentsAnd(change)), false, "change %d", i)
		expect(t, impl.EqualFamilies(parentsAnd(change), parentsAnd(same)), false, "change %d before", i)
		expect(t, impl.EqualFamilies(parentsAnd(change), parentsAnd(change)), true, "change %d twice, valid or not", i)
	}
	empty := impl.Family{People: []impl.Person{}, Unions: []impl.Union{}}
	expect(t, impl.EqualFamilies(empty, impl.Family{}), true, "nil and empty")
	expect(t, impl.EqualFamilies(crowdOf(45, 61), crowdOf(45, 61)), true, "large")
	expect(t, impl.EqualFamilies(crowdOf(45, 61), crowdOf(45, 62)), false, "large and larger")
}
