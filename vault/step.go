package vault

import (
	"toponym/api"
	"toponym/bank"
)

// step is told nothing: what it works on goes with its method value.
type step func() api.Errno

func inOrder(steps ...step) api.Errno {
	for _, do := range steps {
		if err := do(); err != api.OK {
			return err
		}
	}
	return api.OK
}

// entry is what is to be written at a half's end.
type entry struct {
	half *half
	text string
}

// fits asks what layer 7's Write would, but writes nothing: what is wiped ahead
// of the writing is there no more.
func (e entry) fits() api.Errno {
	if len(e.text) < 1 || len(e.text) > api.MaxImage {
		return api.ErrLong
	}
	if bank.Frames(len(e.text)) > e.half.room() {
		return api.ErrFull
	}
	return api.OK
}

func (e entry) write() api.Errno {
	h := e.half
	end, err := bank.Write(h.device, h.from, h.size, h.end, e.text)
	if err == api.OK {
		h.end = end
	}
	return err
}
