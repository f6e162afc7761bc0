package lines

import (
	"debugger/api"
	"debugger/wire"
)

// Encode returns the line programs of tables.
func Encode(l []api.LineTable) []byte {
	if !Right(l) {
		return nil
	}
	b := wire.AppendUint(nil, len(l))
	for _, t := range l {
		b = append(b, wire.AppendUint(wire.AppendUint(nil, t.Lo), t.Hi)...)
		b = append(b, program(t)...)
	}
	if len(b) > api.MaxBytes {
		return nil
	}
	return b
}

// program returns the program of a table.
func program(t api.LineTable) []byte {
	var b []byte
	write := func(op int, number ...byte) { b = append(append(b, byte(op)), number...) }
	last := initial(t.Lo)
	for _, r := range t.Rows {
		if r.Ctx != last.Ctx {
			write(opContext, wire.AppendUint(nil, r.Ctx)...)
		}
		rise, change := r.Addr-last.Addr, r.Stmt-last.Stmt
		last = r
		if op, fits := short(rise, change); fits && r.Mark {
			write(op)
			continue
		}
		if rise > 0 {
			write(opAddress, wire.AppendUint(nil, rise)...)
		}
		if change != 0 {
			write(opStatement, wire.AppendInt(nil, change)...)
		}
		if r.Mark {
			write(opMark)
		} else {
			write(opRow)
		}
	}
	write(opEnd)
	return b
}
