package eval

import "astrolabe/api"

// room is which numbers a place of a point may have: any, or those from 0 to one less than count.
type room struct {
	any   bool
	count int
}

func (r room) has(q int64) bool {
	return r.any || 0 <= q && q < int64(r.count)
}

// roomOf is the room of a type.
func roomOf(typ int) room {
	if typ == api.TypeBool {
		return room{count: 2}
	}
	return room{any: true}
}

// roomsOf are those of a hybrid's parameters, ders, mems and modes.
func roomsOf(d api.Decl) [4][]room {
	var in, state, mem, mode []room
	for _, x := range d.Params {
		in = append(in, roomOf(x.Type))
	}
	for _, it := range d.Items {
		switch it.Kind {
		case api.ItDer:
			state = append(state, roomOf(api.TypeFix))
		case api.ItMem:
			mem = append(mem, roomOf(it.Type))
		case api.ItMode:
			mode = append(mode, room{count: len(it.States)})
		}
	}
	return [...][]room{in, state, mem, mode}
}
