package heap

import "cmp"

// entry is a thing with its key.
type entry[K, T cmp.Ordered] struct {
	key   K
	thing T
}

// pile is entries as a tree, so that the least one is always at its top, and putting one in or taking it out moves but one of each level: below the place n are 2n+1 and 2n+2, and no entry there is less than the one at n.
type pile[K, T cmp.Ordered] struct{ entries []entry[K, T] }

// put puts an entry in.
func (p *pile[K, T]) put(e entry[K, T]) {
	p.entries = append(p.entries, e)
	p.rise(len(p.entries) - 1)
}

// take takes the least entry out, if there is one.
func (p *pile[K, T]) take() (entry[K, T], bool) {
	if len(p.entries) == 0 {
		return entry[K, T]{}, false
	}
	least, last := p.entries[0], len(p.entries)-1
	p.swap(0, last)
	// What is taken out is not to be kept behind the list's length.
	p.entries[last] = entry[K, T]{}
	p.entries = p.entries[:last]
	p.sink(0)
	return least, true
}

// rise moves the entry at a place up, as long as it is less than the one above it.
func (p *pile[K, T]) rise(at int) {
	for at > 0 {
		above := (at - 1) / 2
		if !p.less(at, above) {
			return
		}
		p.swap(at, above)
		at = above
	}
}

// sink moves the entry at a place down, as long as one below it is less.
func (p *pile[K, T]) sink(at int) {
	for {
		least := at
		for below := 2*at + 1; below <= 2*at+2 && below < len(p.entries); below++ {
			if p.less(below, least) {
				least = below
			}
		}
		if least == at {
			return
		}
		p.swap(at, least)
		at = least
	}
}

// less tells whether the entry at a is less than the one at b: by its key, then by its thing.
func (p *pile[K, T]) less(a, b int) bool {
	left, right := p.entries[a], p.entries[b]
	if c := cmp.Compare(left.key, right.key); c != 0 {
		return c < 0
	}
	return cmp.Less(left.thing, right.thing)
}

func (p *pile[K, T]) swap(a, b int) {
	p.entries[a], p.entries[b] = p.entries[b], p.entries[a]
}
