package esheap

import "pennant/api"

// properties are an object's own: found by their keys, and in a ring in the order in which the keys came in, so that one can be dropped without going through the others.
type properties struct {
	byKey map[string]*property
	// ring is ahead of the first one and behind the last one; it is none itself.
	ring *property
}

type property struct {
	key           string
	value         api.Value
	ahead, behind *property
}

func (p *properties) has(key string) bool {
	return p.byKey[key] != nil
}

func (p *properties) get(key string) (api.Value, bool) {
	x := p.byKey[key]
	if x == nil {
		return api.Value{}, false
	}
	return x.value, true
}

func (p *properties) put(key string, v api.Value) {
	if x := p.byKey[key]; x != nil {
		x.value = v
		return
	}
	if p.byKey == nil {
		p.open()
	}
	x := &property{key: key, value: v, ahead: p.ring.ahead, behind: p.ring}
	x.ahead.behind = x
	x.behind.ahead = x
	p.byKey[key] = x
}

// open lays the map and the ring: most objects of a script never have a property.
func (p *properties) open() {
	p.byKey = map[string]*property{}
	p.ring = &property{}
	p.ring.ahead = p.ring
	p.ring.behind = p.ring
}

func (p *properties) drop(key string) {
	x := p.byKey[key]
	x.ahead.behind = x.behind
	x.behind.ahead = x.ahead
	delete(p.byKey, key)
}

// keys hands on the keys in their order behind those that are there already.
func (p *properties) keys(list []string) []string {
	if p.ring == nil {
		return list
	}
	for x := p.ring.behind; x != p.ring; x = x.behind {
		list = append(list, x.key)
	}
	return list
}
