package vault

import (
	"toponym/api"
	"toponym/bank"
	"toponym/sector"
)

// leastHalf has a head and a frame.
const leastHalf = 2

// manyEpochs has none behind it.
const manyEpochs = 1 << 63

// half is a bank of a vault's, up to its end. Its steps are methods of the
// pointer: one finds what those ahead of it have left.
type half struct {
	device *sector.Device
	from   int
	size   int
	end    int
	epoch  uint64
}

// halves knows of nothing that stands there: each ends at its frame 1.
func halves(d *sector.Device) (half, half) {
	size := d.Size() / 2
	return half{device: d, size: size, end: 1}, half{device: d, from: size, size: size, end: 1}
}

func newer(first, second half) half {
	if second.epoch > first.epoch {
		return second
	}
	return first
}

// other is to be wiped, so that it ends at its frame 1, whatever stands there.
func (h *half) other() half {
	return half{device: h.device, from: h.size - h.from, size: h.size, end: 1, epoch: h.epoch + 1}
}

// stands asks the device for a sector, as it tells of its power only so, and
// does that first.
func (h *half) stands() api.Errno {
	if _, err := h.device.Get(h.from); err != api.OK {
		return err
	}
	if h.size < leastHalf {
		return api.ErrArg
	}
	return api.OK
}

func (h *half) hasNext() api.Errno {
	if h.epoch >= manyEpochs {
		return api.ErrMany
	}
	return api.OK
}

func (h *half) readEpoch() api.Errno {
	epoch, err := bank.Epoch(h.device, h.from)
	h.epoch = epoch
	return err
}

// scan answers one record at least, beside OK.
func (h *half) scan() ([]string, api.Errno) {
	if h.epoch == 0 {
		return nil, api.ErrForm
	}
	l, end, err := bank.Scan(h.device, h.from, h.size)
	if err != api.OK {
		return nil, err
	}
	if len(l) == 0 {
		return nil, api.ErrForm
	}
	h.end = end
	return l, api.OK
}

func (h *half) room() int {
	return h.size - h.end
}

// shut leaves the epoch that is held as it is: sign puts it there.
func (h *half) shut() api.Errno {
	return bank.SetEpoch(h.device, h.from, 0)
}

func (h *half) sign() api.Errno {
	return bank.SetEpoch(h.device, h.from, h.epoch)
}

func (h *half) wipe() api.Errno {
	return bank.Wipe(h.device, h.from, h.size, h.end)
}
