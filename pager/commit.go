package pager

import (
	"maps"
	"slices"

	"wainscot/api"
	"wainscot/journal"
)

const recordSize = 576

// headSize is where in the journal the second head stands.
const headSize = 64

func sorted[V any](m map[int]V) []int { return slices.Sorted(maps.Keys(m)) }

// changes are the pages that a commit writes, in rising order: those that lie behind the database, those that the cache
// holds, and of the free ones (by their places in the stack) those below which another one stands now.
type changes struct {
	lying, held, freed []int
}

func (p *Pager) changes() changes {
	c := changes{lying: sorted(p.places)}
	for _, n := range sorted(p.frames) {
		if p.frames[n].dirty {
			c.held = append(c.held, n)
		}
	}
	for i, n := range p.now.free {
		if len(c.freed) > 0 || i >= len(p.last.free) || p.last.free[i] != n {
			c.freed = append(c.freed, i)
		}
	}
	return c
}

// overwritten answers the committed pages that a commit writes anew, the head among them.
func (p *Pager) overwritten(c changes) []int {
	l := slices.Concat([]int{0}, c.lying, c.held)
	for _, i := range c.freed {
		l = append(l, p.now.free[i])
	}
	return slices.DeleteFunc(l, func(n int) bool { return n >= p.home })
}

// Commit makes all durable.
func (p *Pager) Commit() api.Errno {
	if e := p.ready(); e != api.OK {
		return e
	}
	c := p.changes()
	if len(c.lying) == 0 && len(c.held) == 0 && p.now.same(p.last) {
		p.forget()
		return p.met(p.tidy())
	}
	if e := p.trim(); e != api.OK {
		return p.met(e)
	}
	records := p.overwritten(c)
	if p.growth(len(records), p.now.pages) > p.d.Left() {
		return api.ErrFull
	}
	if e := p.commit(c, records); e != api.OK {
		return p.met(e)
	}
	p.settle()
	return api.OK
}

// trim gives back the room behind the last place that is needed.
func (p *Pager) trim() api.Errno {
	ends := max(1, p.home)
	for _, place := range p.places {
		ends = max(ends, place+1)
	}
	if p.mark != nil {
		for _, place := range p.mark.places {
			ends = max(ends, place+1)
		}
	}
	if ends >= p.ends {
		return api.OK
	}
	p.ends = ends
	p.spare = slices.DeleteFunc(p.spare, func(place int) bool { return place >= ends })
	return p.d.Truncate(fileData, ends*api.PageSize)
}

// commit does what makes changes durable, step by step; ahead of the last one a crash leads back to the last commit.
func (p *Pager) commit(c changes, records []int) api.Errno {
	for _, step := range []func() api.Errno{
		p.begin,
		func() api.Errno { return p.record(records) },
		func() api.Errno { return p.extend(p.now.pages) },
		func() api.Errno { return p.bringAll(c.lying) },
		func() api.Errno { return p.writeRest(c) },
		p.syncData,
		func() api.Errno { return p.d.Truncate(fileJournal, 0) },
	} {
		if e := step(); e != api.OK {
			return e
		}
	}
	return api.OK
}

// record keeps committed pages in the journal, and then lets its other head tell of them.
func (p *Pager) record(numbers []int) api.Errno {
	if len(numbers) == 0 {
		return api.OK
	}
	for i, n := range numbers {
		b, e := p.readPlace(n)
		if e != api.OK {
			return e
		}
		r, e := journal.Record(p.salt(), n, b)
		if e != api.OK {
			return e
		}
		if e := p.d.Write(fileJournal, headsSize+i*recordSize, r); e != api.OK {
			return e
		}
	}
	if e := p.d.Sync(fileJournal); e != api.OK {
		return e
	}
	head, e := journal.Head(p.salt(), p.home, len(numbers))
	if e != api.OK {
		return e
	}
	if e := p.d.Write(fileJournal, headSize, head); e != api.OK {
		return e
	}
	return p.d.Sync(fileJournal)
}

// bringAll brings the pages that lie behind the database home.
func (p *Pager) bringAll(numbers []int) api.Errno {
	lies := make(map[int]int, len(numbers))
	for _, n := range numbers {
		lies[p.places[n]] = n
	}
	for _, n := range numbers {
		if e := p.bring(n, lies); e != api.OK {
			return e
		}
	}
	return api.OK
}

// bring brings a page home. Where another one lies there, that one goes home next, and so on: so that two contents are
// enough. lies tells which page lies at a place.
func (p *Pager) bring(n int, lies map[int]int) api.Errno {
	place, ok := p.places[n]
	if !ok {
		return api.OK
	}
	b, e := p.readPlace(place)
	for e == api.OK {
		delete(lies, p.places[n])
		delete(p.places, n)
		other, taken := lies[n]
		var next []byte
		if taken {
			next, e = p.readPlace(n)
			if e != api.OK {
				return e
			}
		}
		e = p.d.Write(fileData, n*api.PageSize, b)
		if !taken {
			return e
		}
		n, b = other, next
	}
	return e
}

// writeRest writes the pages that lie nowhere yet, and the head.
func (p *Pager) writeRest(c changes) api.Errno {
	for _, n := range c.held {
		if e := p.d.Write(fileData, n*api.PageSize, page(n, p.frames[n].data)); e != api.OK {
			return e
		}
	}
	for _, i := range c.freed {
		n := p.now.free[i]
		if e := p.d.Write(fileData, n*api.PageSize, page(n, freeContent(below(p.now.free, i)))); e != api.OK {
			return e
		}
	}
	p.now.commits++
	return p.d.Write(fileData, 0, page(0, headContent(p.now)))
}

// syncData makes the pages durable, and those alone.
func (p *Pager) syncData() api.Errno {
	if p.d.Size(fileData) > p.now.pages*api.PageSize {
		return p.d.Truncate(fileData, p.now.pages*api.PageSize)
	}
	return p.d.Sync(fileData)
}

// settle takes what is as committed.
func (p *Pager) settle() {
	for _, f := range p.frames {
		f.dirty = false
	}
	p.begun = false
	p.last = p.now.clone()
	p.home = p.now.pages
	p.forget()
}
