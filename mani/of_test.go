package mani

import (
	"math"
	"slices"
	"testing"

	"sculler/api"
	"sculler/arena"
)

func TestOf(t *testing.T) {
	for _, a := range arenas() {
		for _, session := range sessions() {
			m := manifest(t, session, a)
			if m.Session != session || !slices.Equal(m.Sizes, arena.Sizes(a)) || m.Sum != sumOf(session, a) {
				t.Errorf("Of(%d, %.200s) = %v, want the sum %d", session, text(a), m, sumOf(session, a))
			}
			if !Right(m) {
				t.Errorf("%v is not Right", m)
			}
		}
	}
}

// TestOfByHand has sums that were worked out bit by bit, apart from this program.
func TestOfByHand(t *testing.T) {
	upTo := make([]uint64, 4096)
	for i := range upTo {
		upTo[i] = uint64(i)
	}
	for _, c := range []struct {
		session uint64
		a       api.Arena
		want    uint32
	}{
		{0, api.Arena{{0}}, 0x0273b681},
		{1, api.Arena{{7}}, 0xf743b1ae},
		{0x0102030405060708, api.Arena{{1, 2, 3}, {0xfedcba9876543210, 5}}, 0xe43ca131},
		{math.MaxUint64, api.Arena{{math.MaxUint64}, {}}, 0xb74eb797},
		{9, api.Arena{{1, 2, 3, 4, 5, 6, 7, 8, 9}}, 0xcb9b4d46},
		{5, api.Arena{upTo}, 0x9a4525a4},
	} {
		if m := manifest(t, c.session, c.a); m.Sum != c.want {
			t.Errorf("Of(%d, %.200s) has the sum %08x, want %08x", c.session, text(c.a), m.Sum, c.want)
		}
	}
}

func TestOfWhatMayNotBe(t *testing.T) {
	for _, a := range wrongArenas() {
		for _, session := range sessions() {
			if m, err := Of(session, a); err != api.ErrArg || m.Session != 0 || len(m.Sizes) != 0 || m.Sum != 0 {
				t.Errorf("Of(%d, %.200s) = %v, %d, want noughts, ErrArg", session, text(a), m, err)
			}
		}
	}
}

// TestSumsGoByEachPart has sums that are another one by one part alone, and by where it stands.
func TestSumsGoByEachPart(t *testing.T) {
	known := map[uint32]string{}
	for _, a := range []api.Arena{
		{{1, 2, 3}}, {{1, 2}, {3}}, {{1}, {2, 3}}, {{1}, {2}, {3}}, {{1, 2, 3}, nil}, {{1, 2}, nil, {3}}, {{1, 2}, {3}, nil},
		{{1, 2, 4}}, {{1, 3, 2}}, {{2, 1, 3}}, {{1, 2, 3 << 56}}, {{1, 2}}, {{1, 2, 3, 0}}, {{0, 1, 2, 3}}, {{3, 2, 1}},
	} {
		for _, session := range []uint64{0, 1, 2, 3, 1 << 8, 3 << 56, math.MaxUint64} {
			sum := manifest(t, session, a).Sum
			if other, is := known[sum]; is {
				t.Errorf("%d, %v has the sum of %s", session, a, other)
			}
			known[sum] = text(session) + ", " + text(a)
		}
	}
}

func TestRight(t *testing.T) {
	for _, sizes := range fitting() {
		for _, m := range []api.Manifest{of(sizes...), {Sizes: sizes}, {Session: math.MaxUint64, Sizes: sizes, Sum: math.MaxUint32}} {
			if !Right(m) {
				t.Errorf("%v is not Right", m)
			}
		}
	}
	for _, sizes := range unfitting() {
		for _, m := range []api.Manifest{of(sizes...), {Sizes: sizes}} {
			if Right(m) {
				t.Errorf("%.200s is Right", text(m))
			}
		}
	}
}

func TestMatches(t *testing.T) {
	for _, a := range arenas() {
		for _, session := range sessions() {
			m := manifest(t, session, a)
			if !Matches(m, a) || !Matches(m, copied(a)) {
				t.Errorf("%v is not that of %.200s", m, text(a))
			}
			for _, n := range bentManifests(m) {
				if Matches(n, a) {
					t.Errorf("%v is that of %.200s", n, text(a))
				}
			}
		}
	}
}

// bentManifests are others by one thing each.
func bentManifests(m api.Manifest) []api.Manifest {
	var l []api.Manifest
	for bit := range 64 {
		l = append(l, api.Manifest{Session: m.Session ^ 1<<bit, Sizes: m.Sizes, Sum: m.Sum})
	}
	for bit := range 32 {
		l = append(l, api.Manifest{Session: m.Session, Sizes: m.Sizes, Sum: m.Sum ^ 1<<bit})
	}
	for i := range m.Sizes {
		more, fewer, without := slices.Clone(m.Sizes), slices.Clone(m.Sizes), slices.Delete(slices.Clone(m.Sizes), i, i+1)
		more[i]++
		fewer[i]--
		for _, sizes := range [][]int{more, fewer, without} {
			l = append(l, api.Manifest{Session: m.Session, Sizes: sizes, Sum: m.Sum})
		}
	}
	return append(l, api.Manifest{Session: m.Session, Sizes: append(slices.Clone(m.Sizes), 0), Sum: m.Sum}, api.Manifest{Session: m.Session, Sum: m.Sum})
}

// TestMatchesNoOtherArena bends each bit of an arena, and each end of a segment.
func TestMatchesNoOtherArena(t *testing.T) {
	for _, a := range []api.Arena{arenaOf(1), arenaOf(3, 2), arenaOf(2, 0, 1), arenaOf(ones(5, 4)...), arenaOf(17)} {
		m := manifest(t, 7, a)
		for seg, words := range a {
			for at := range words {
				for bit := range 64 {
					bent := copied(a)
					bent[seg][at] ^= 1 << bit
					if Matches(m, bent) {
						t.Errorf("%v is that of %v", m, bent)
					}
				}
			}
		}
		for _, bent := range cutElsewhere(a) {
			if Matches(m, bent) {
				t.Errorf("%v is that of %v", m, bent)
			}
		}
	}
}

// cutElsewhere are arenas of the same words whose segments end elsewhere, or that have a word, or a segment, more or fewer.
func cutElsewhere(a api.Arena) []api.Arena {
	l := []api.Arena{append(copied(a), nil), append(copied(a), []uint64{0}), append(api.Arena{nil}, copied(a)...), a[:len(a)-1]}
	for seg := range a {
		long := copied(a)
		long[seg] = append(long[seg], 0)
		l = append(l, long)
		if n := len(a[seg]); n > 0 {
			short := copied(a)
			short[seg] = short[seg][:n-1]
			l = append(l, short)
			if seg+1 < len(a) {
				later := copied(short)
				later[seg+1] = append([]uint64{a[seg][n-1]}, later[seg+1]...)
				l = append(l, later, slices.Concat(a[:seg], api.Arena{slices.Concat(a[seg], a[seg+1])}, a[seg+2:]))
			}
		}
	}
	return l
}

// TestWhatMayNotBeMatchesNothing has arenas without a manifest, and manifests that are not Right.
func TestWhatMayNotBeMatchesNothing(t *testing.T) {
	for _, a := range wrongArenas() {
		for _, m := range []api.Manifest{{}, {Sizes: []int{}}, {Sizes: arena.Sizes(a)}, {Session: 3, Sizes: arena.Sizes(a), Sum: sumOf(3, a)}, {Session: 3}, manifest(t, 3, api.Arena{{1}})} {
			if Matches(m, a) {
				t.Errorf("%.200s is that of %.200s", text(m), text(a))
			}
		}
	}
	for _, a := range []api.Arena{{{1}}, {{0}, nil}, arenaOf(9)} {
		for _, sizes := range unfitting() {
			if Matches(api.Manifest{Session: 3, Sizes: sizes, Sum: sumOf(3, a)}, a) {
				t.Errorf("sizes %.200s are those of %v", text(sizes), a)
			}
		}
	}
}

func TestSame(t *testing.T) {
	for _, sizes := range append(fitting(), unfitting()...) {
		m := api.Manifest{Session: 1 << 40, Sizes: sizes, Sum: 1 << 20}
		n := api.Manifest{Session: 1 << 40, Sizes: slices.Clone(sizes), Sum: 1 << 20}
		if !Same(m, n) || !Same(n, m) || !Same(m, m) {
			t.Errorf("%.200s is not the Same as itself", text(m))
		}
		if len(sizes) > 20 {
			continue
		}
		for _, bent := range bentManifests(m) {
			// Of no sizes there is one bent that is as m is.
			is := bent.Session == m.Session && bent.Sum == m.Sum && slices.Equal(bent.Sizes, sizes)
			if Same(m, bent) != is || Same(bent, m) != is {
				t.Errorf("Same of %v and %v", m, bent)
			}
		}
	}
}

func TestSameOfFewFields(t *testing.T) {
	for _, c := range []struct {
		m, n api.Manifest
		want bool
	}{
		{api.Manifest{}, api.Manifest{}, true},
		{api.Manifest{Sizes: nil}, api.Manifest{Sizes: []int{}}, true},
		{api.Manifest{Session: 2, Sum: 3}, api.Manifest{Session: 2, Sizes: []int{}, Sum: 3}, true},
		{api.Manifest{Session: 2, Sum: 3}, api.Manifest{Session: 3, Sum: 2}, false},
		{api.Manifest{Session: 1}, api.Manifest{}, false},
		{api.Manifest{Sum: 1}, api.Manifest{}, false},
		{api.Manifest{Sizes: []int{0}}, api.Manifest{}, false},
		{api.Manifest{Sizes: []int{1, 2}}, api.Manifest{Sizes: []int{2, 1}}, false},
		{api.Manifest{Sizes: []int{1, 2}}, api.Manifest{Sizes: []int{1, 2, 0}}, false},
		{api.Manifest{Sizes: []int{1, 2}}, api.Manifest{Sizes: []int{1}}, false},
		{api.Manifest{Sizes: []int{-1}}, api.Manifest{Sizes: []int{-1}}, true},
	} {
		if Same(c.m, c.n) != c.want || Same(c.n, c.m) != c.want {
			t.Errorf("Same of %v and %v is not %v", c.m, c.n, c.want)
		}
	}
}
