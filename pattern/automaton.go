package pattern

// Automaton reads strings. Its state is the set of the spots at which the
// bytes read so far may have ended.
type Automaton struct {
	next []int    // of each spot the spots that may come behind it
	fits [256]int // of each byte the spots at which it can stand
	last int      // the spots at which a match may end
}

// start is the state before the first byte: spot 0 alone, which stands before
// all others and at which no byte is read.
const start = 1

// noSet is the number that spot 0 has in the place of a set's.
const noSet = -1

// Build makes the automaton of a pattern.
func Build(t Tree) Automaton {
	whole := partOf(t, len(t.nodes)-1)
	whole = behind(onePart(noSet), whole)
	a := Automaton{next: whole.next, last: whole.last}
	for i := 0; i < len(whole.sets); i++ {
		set := setAt(t, whole.sets[i])
		for b := 0; b < len(set); b++ {
			if set[b] {
				a.fits[b] |= move(1, i)
			}
		}
	}
	return a
}

func setAt(t Tree, i int) byteSet {
	if i < 0 || i >= len(t.sets) {
		return byteSet{}
	}
	return t.sets[i]
}

// reach is the set of the spots that may come behind those of a state.
func (a *Automaton) reach(state int) int {
	spots := 0
	for i := 0; i < len(a.next); i++ {
		if has(state, i) {
			spots |= a.next[i]
		}
	}
	return spots
}

func (a *Automaton) grants(state int) bool {
	return state&a.last != 0
}

// Match tells whether a string matches the automaton's pattern.
func (a *Automaton) Match(s string) bool {
	state := start
	for i := 0; i < len(s); i++ {
		state = a.reach(state) & a.fits[s[i]]
	}
	return a.grants(state)
}
